/-
  What FS.build makes: a node, and its name in a directory. Conditions: at most 1000000 nodes, entries and links.
-/
import Derived.Test.YtknfhphhcnbndaaGreatDoorKVAdd
import Derived.Test.YtknfhphhcnbndaaGreatDoorKVEnter
import Derived.Test.YtknfhphhcnbndaaGreatDoorKVChg
import Derived.StillTailTactics
set_option linter.unusedVariables false
set_option linter.unusedSimpArgs false
namespace Go.Proofs.YtknfhphhcnbndaaGreatDoor.V
open Go.RowKit

end Go.Proofs.YtknfhphhcnbndaaGreatDoor.V
