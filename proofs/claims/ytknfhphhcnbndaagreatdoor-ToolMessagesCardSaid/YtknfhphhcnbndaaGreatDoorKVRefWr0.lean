/-
  What the reference's wrong tells of a change of the kind 0. Conditions: at most 1000000 nodes and entries, texts of at most 1000000 bytes.
-/
import Derived.Test.YtknfhphhcnbndaaGreatDoorKVRefWrP
set_option linter.unusedSimpArgs false
set_option linter.unusedVariables false
namespace Go.Proofs.YtknfhphhcnbndaaGreatDoor.V
open Go.RowKit Go.BigFrame

end Go.Proofs.YtknfhphhcnbndaaGreatDoor.V
