/-
  What node.set makes of a node: its mode, its owner and group, a time, or that it can't be read. Conditions: the change is one of these, and of a time that there is.
  What FS.carryOut makes of a file system. Conditions: nothing is wrong with the change; at most 1000000 nodes, entries and links.
-/
import Derived.Test.YtknfhphhcnbndaaGreatDoorKVBuild
import Derived.Test.YtknfhphhcnbndaaGreatDoorKVEnter
import Derived.Test.YtknfhphhcnbndaaGreatDoorKVRefuse
import Derived.Test.YtknfhphhcnbndaaGreatDoorKVCover
import Derived.Deep.RegionHeld3
set_option linter.unusedSimpArgs false
set_option linter.unusedVariables false
namespace Go.Proofs.YtknfhphhcnbndaaGreatDoor.V
open Go.RowKit

end Go.Proofs.YtknfhphhcnbndaaGreatDoor.V

namespace Go.Proofs.YtknfhphhcnbndaaGreatDoor.V
open Go.RowKit

end Go.Proofs.YtknfhphhcnbndaaGreatDoor.V
