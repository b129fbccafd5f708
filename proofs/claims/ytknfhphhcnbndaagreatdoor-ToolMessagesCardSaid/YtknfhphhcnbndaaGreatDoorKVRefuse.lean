/-
  What is wrong with a change, as the program tells it. Conditions: at most 1000000 entries.
-/
import Derived.Test.YtknfhphhcnbndaaGreatDoorKVEntry
set_option linter.unusedSimpArgs false
set_option linter.unusedVariables false
namespace Go.Proofs.YtknfhphhcnbndaaGreatDoor.V
open Go.RowKit

end Go.Proofs.YtknfhphhcnbndaaGreatDoor.V
