/-
  What the reference's wrong tells of a change of the kinds 4, 5, 6 and 8, of no kind, and of the kind 7 where it isn't to cover a directory that there is. Conditions: at most 1000000 nodes and entries.
-/
import Derived.Test.YtknfhphhcnbndaaGreatDoorKVRefWrP
set_option linter.unusedSimpArgs false
set_option linter.unusedVariables false
namespace Go.Proofs.YtknfhphhcnbndaaGreatDoor.V
open Go.RowKit Go.BigFrame

end Go.Proofs.YtknfhphhcnbndaaGreatDoor.V
