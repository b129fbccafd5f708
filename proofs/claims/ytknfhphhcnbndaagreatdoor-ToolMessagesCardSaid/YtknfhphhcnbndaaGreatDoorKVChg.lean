/-
  A change, as a value; what FS.hasEntry and makesNode return. Conditions: at most 1000000 entries.
-/
import Derived.Test.YtknfhphhcnbndaaGreatDoorKVAdd
set_option linter.unusedVariables false
set_option linter.unusedSimpArgs false
namespace Go.Proofs.YtknfhphhcnbndaaGreatDoor.V
open Go.RowKit

/-- Are two texts the same? -/
def sameT (a b : ByteArray) : Bool := a.toList == b.toList
def hasEnt (s : ByteArray) (l : List (ByteArray × Int)) : Bool := l.any (fun e => sameT e.1 s)
end Go.Proofs.YtknfhphhcnbndaaGreatDoor.V
