/-
  What is wrong with a change that makes an entry, as the program tells it. Conditions: at most 1000000 entries.
-/
import Derived.Test.YtknfhphhcnbndaaGreatDoorKVCheck
import Derived.Test.YtknfhphhcnbndaaGreatDoorKVGood
set_option linter.unusedVariables false
set_option linter.unusedSimpArgs false
namespace Go.Proofs.YtknfhphhcnbndaaGreatDoor.V
open Go.RowKit

end Go.Proofs.YtknfhphhcnbndaaGreatDoor.V
