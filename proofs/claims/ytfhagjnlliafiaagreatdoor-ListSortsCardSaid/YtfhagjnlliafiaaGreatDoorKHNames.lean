/-
  A path's names.
  Conditions: each fact's own.
-/
import Derived.Lib.FieldsP
import Derived.Lib.SpaceUEq
import Derived.Lib.TrimU
import Derived.Test.YtfhagjnlliafiaaGreatDoorShelf
import Derived.Test.YtfhagjnlliafiaaGreatDoorRows
import Derived.WalkKit
import Derived.WalkSpells
import Derived.WalkLawsBesides
import Derived.OwnWalk
import Derived.Deep.AppendLies
import Derived.Lib.Hide
set_option linter.unusedVariables false
namespace Go.Proofs.YtfhagjnlliafiaaGreatDoor.V
end Go.Proofs.YtfhagjnlliafiaaGreatDoor.V
namespace Go.Proofs.YtfhagjnlliafiaaGreatDoor.V
open Go.RowKit Go.Shelf
def strs (l : List ByteArray) : List Value := l.map Value.string
end Go.Proofs.YtfhagjnlliafiaaGreatDoor.V
