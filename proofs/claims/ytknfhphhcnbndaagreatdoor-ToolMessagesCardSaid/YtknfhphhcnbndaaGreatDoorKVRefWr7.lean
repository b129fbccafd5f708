/-
  What the reference's wrong tells of a change of the kind 7. Conditions: at most 1000000 nodes and entries; what covers a node is none below 0.
-/
import Derived.Test.YtknfhphhcnbndaaGreatDoorKVRefWrN
import Derived.Deep.RegionHeld3
set_option linter.unusedSimpArgs false
set_option linter.unusedVariables false
namespace Go.Proofs.YtknfhphhcnbndaaGreatDoor.V
open Go.RowKit Go.BigFrame

end Go.Proofs.YtknfhphhcnbndaaGreatDoor.V
