/-
  What is wrong with a change, as the program tells it of one more name, and of a node. Conditions: none but that the file system lies in memory.
-/
import Derived.Test.YtknfhphhcnbndaaGreatDoorKVBuild
import Derived.Deep.QuietTactic
import Derived.BigQuiet
set_option linter.unusedSimpArgs false
set_option linter.unusedVariables false
namespace Go.Proofs.YtknfhphhcnbndaaGreatDoor.V
open Go.RowKit

end Go.Proofs.YtknfhphhcnbndaaGreatDoor.V
