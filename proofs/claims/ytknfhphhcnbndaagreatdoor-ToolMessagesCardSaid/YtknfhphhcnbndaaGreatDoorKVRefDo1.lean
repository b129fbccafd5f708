/-
  What the reference's Do makes of a file more. Conditions: at most 1000000 nodes and entries, texts of at most 1000000 bytes.
-/
import Derived.Test.YtknfhphhcnbndaaGreatDoorKVRefDo0
set_option linter.unusedSimpArgs false
set_option linter.unusedVariables false
namespace Go.Proofs.YtknfhphhcnbndaaGreatDoor.V
open Go.RowKit Go.BigFrame

end Go.Proofs.YtknfhphhcnbndaaGreatDoor.V
