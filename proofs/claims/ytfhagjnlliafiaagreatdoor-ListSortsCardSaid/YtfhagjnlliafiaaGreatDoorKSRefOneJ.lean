/-
  What the reference's Of returns.
  Conditions: each fact's own.
-/
import Derived.Test.YtfhagjnlliafiaaGreatDoorKDRefM
import Derived.Deep.DeepCutAuto
import Derived.Deep.CutRange
import Derived.Test.YtfhagjnlliafiaaGreatDoorKDBase
import Derived.Test.YtfhagjnlliafiaaGreatDoorKSBuild
import Derived.Laws.IdiomStrings
import Derived.Test.YtfhagjnlliafiaaGreatDoorKSFmt
import Derived.Test.YtfhagjnlliafiaaGreatDoorKSRefDec
import Derived.Deep.RegionHeld3
import Derived.IntWalk
set_option linter.unusedVariables false
namespace Go.Proofs.YtfhagjnlliafiaaGreatDoor.D
open Go.RowKit
end Go.Proofs.YtfhagjnlliafiaaGreatDoor.D
namespace Go.Proofs.YtfhagjnlliafiaaGreatDoor.S
open Go.Proofs.YtfhagjnlliafiaaGreatDoor.D
open Go.RowKit
end Go.Proofs.YtfhagjnlliafiaaGreatDoor.S
namespace Go.Proofs.YtfhagjnlliafiaaGreatDoor.S
open Go.Proofs.YtfhagjnlliafiaaGreatDoor.D Go.Proofs.YtfhagjnlliafiaaGreatDoor.N
open Go.RowKit
variable {w w0 w' : World} {B : Nat} {y m d h i s wd yd : Int}
end Go.Proofs.YtfhagjnlliafiaaGreatDoor.S
namespace Go.Proofs.YtfhagjnlliafiaaGreatDoor.S
open Go.Proofs.YtfhagjnlliafiaaGreatDoor.D Go.Proofs.YtfhagjnlliafiaaGreatDoor.N
open Go.RowKit
end Go.Proofs.YtfhagjnlliafiaaGreatDoor.S
