/-
  What the reference's One returns: what a directive tells of a node. Conditions: what its Node, Link and Quote return is known; texts of at most 60000 bytes.
-/
import Derived.Test.YtknfhphhcnbndaaGreatDoorFJTold
import Derived.Test.YtknfhphhcnbndaaGreatDoorFPRefText
import Derived.Test.YtknfhphhcnbndaaGreatDoorFFormat
set_option linter.unusedVariables false
set_option linter.unusedSimpArgs false
namespace Go.Proofs.YtknfhphhcnbndaaGreatDoor.J
open Go.Proofs.YtknfhphhcnbndaaGreatDoor.B
open Go.RowKit

theorem sizeFs6 : (Tryz.prog.info? 31).map (·.size) = some 6 := by kernel_rfl
end Go.Proofs.YtknfhphhcnbndaaGreatDoor.J
