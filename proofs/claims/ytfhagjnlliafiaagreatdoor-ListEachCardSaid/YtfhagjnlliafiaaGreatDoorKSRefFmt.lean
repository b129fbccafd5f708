/-
  What the reference's One writes of each directive but F, T, j, e and z.
  Conditions: each fact's own.
-/
import Derived.Test.YtfhagjnlliafiaaGreatDoorKSRefOneJ
import Derived.Test.YtfhagjnlliafiaaGreatDoorKSRefOneZ
import Derived.Test.YtfhagjnlliafiaaGreatDoorKSFmt
set_option linter.unusedVariables false
namespace Go.Proofs.YtfhagjnlliafiaaGreatDoor.S
open Go.Proofs.YtfhagjnlliafiaaGreatDoor.D Go.Proofs.YtfhagjnlliafiaaGreatDoor.N
open Go.RowKit
end Go.Proofs.YtfhagjnlliafiaaGreatDoor.S
namespace Go.Proofs.YtfhagjnlliafiaaGreatDoor.S
open Go.Proofs.YtfhagjnlliafiaaGreatDoor.D Go.Proofs.YtfhagjnlliafiaaGreatDoor.N
open Go.RowKit
end Go.Proofs.YtfhagjnlliafiaaGreatDoor.S
namespace Go.Proofs.YtfhagjnlliafiaaGreatDoor.S
open Go.Proofs.YtfhagjnlliafiaaGreatDoor.D Go.Proofs.YtfhagjnlliafiaaGreatDoor.N
open Go.RowKit
end Go.Proofs.YtfhagjnlliafiaaGreatDoor.S
namespace Go.Proofs.YtfhagjnlliafiaaGreatDoor.S
open Go.Proofs.YtfhagjnlliafiaaGreatDoor.D Go.Proofs.YtfhagjnlliafiaaGreatDoor.N
open Go.RowKit
end Go.Proofs.YtfhagjnlliafiaaGreatDoor.S
