/-
  The reference's digits, anyX, has and May.
  Conditions: each fact's own.
-/
import Derived.Test.YtfhagjnlliafiaaGreatDoorKPTextAny
set_option linter.unusedVariables false
namespace Go.Proofs.YtfhagjnlliafiaaGreatDoor.P
open Go.RowKit
end Go.Proofs.YtfhagjnlliafiaaGreatDoor.P
namespace Go.Proofs.YtfhagjnlliafiaaGreatDoor.P
open Go.RowKit
end Go.Proofs.YtfhagjnlliafiaaGreatDoor.P
namespace Go.Proofs.YtfhagjnlliafiaaGreatDoor.P
open Go.RowKit
end Go.Proofs.YtfhagjnlliafiaaGreatDoor.P
