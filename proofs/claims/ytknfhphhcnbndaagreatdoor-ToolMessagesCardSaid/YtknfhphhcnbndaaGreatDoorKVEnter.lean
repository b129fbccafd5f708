/-
  What FS.enter makes: a name in a directory, and one more link. Conditions: at most 1000000 entries, and links.
-/
import Derived.Test.YtknfhphhcnbndaaGreatDoorKVAdd
import Derived.Deep.RegionLaw
import Derived.Deep.MidRow
import Derived.Deep.CutRange
set_option linter.unusedVariables false
set_option linter.unusedSimpArgs false
namespace Go.Proofs.YtknfhphhcnbndaaGreatDoor.V
open Go.RowKit

def addEnt (s : ByteArray) (id : Int) (n : Nd) : Nd := { n with ents := n.ents ++ [(s, id)] }
end Go.Proofs.YtknfhphhcnbndaaGreatDoor.V
