/-
  What the reference's Do makes of a change of the kind 4. Conditions: at most 1000000 nodes and entries, texts of at most 1000000 bytes.
  What the reference's Do makes of a change of the kind 5. Conditions: at most 1000000 nodes and entries, texts of at most 1000000 bytes.
  What the reference's Do makes of a change of the kind 6. Conditions: at most 1000000 nodes and entries, texts of at most 1000000 bytes.
  What the reference's Do makes of a change of the kind 8. Conditions: at most 1000000 nodes and entries, texts of at most 1000000 bytes.
-/
import Derived.Test.YtknfhphhcnbndaaGreatDoorKVItem
import Derived.Deep.RegionHeld3
set_option linter.unusedSimpArgs false
set_option linter.unusedVariables false
namespace Go.Proofs.YtknfhphhcnbndaaGreatDoor.V
open Go.RowKit Go.BigFrame

end Go.Proofs.YtknfhphhcnbndaaGreatDoor.V

namespace Go.Proofs.YtknfhphhcnbndaaGreatDoor.V
open Go.RowKit Go.BigFrame

end Go.Proofs.YtknfhphhcnbndaaGreatDoor.V

namespace Go.Proofs.YtknfhphhcnbndaaGreatDoor.V
open Go.RowKit Go.BigFrame

end Go.Proofs.YtknfhphhcnbndaaGreatDoor.V

namespace Go.Proofs.YtknfhphhcnbndaaGreatDoor.V
open Go.RowKit Go.BigFrame

end Go.Proofs.YtknfhphhcnbndaaGreatDoor.V
