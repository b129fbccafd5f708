/-
  What slices.Equal of two rows of entries, alike, slices.EqualFunc and FS.Same return. Conditions: the file systems lie in memory; at most 1000000 nodes, and entries a directory.
-/
import Derived.Test.YtknfhphhcnbndaaGreatDoorFVAsk
set_option linter.unusedSimpArgs false
set_option linter.unusedVariables false
namespace Go.Proofs.YtknfhphhcnbndaaGreatDoor.V
open Go.RowKit

end Go.Proofs.YtknfhphhcnbndaaGreatDoor.V
