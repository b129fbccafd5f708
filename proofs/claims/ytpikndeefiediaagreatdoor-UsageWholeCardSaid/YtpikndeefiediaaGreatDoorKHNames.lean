/-
  A path's names: what stands between its slashes, by bytes; the library's way, by runes, gives the same. Conditions: none.
  What path.Names and the reference's Names return: a path's names, and whether it begins, and ends, with a slash. Conditions: at most 100000 bytes.
-/
import Derived.Lib.FieldsP
import Derived.Lib.SpaceUEq
import Derived.Lib.TrimU
import Derived.Test.YtpikndeefiediaaGreatDoorShelf
import Derived.Test.YtpikndeefiediaaGreatDoorRows
import Derived.WalkKit
import Derived.WalkSpells
import Derived.WalkLawsBesides
import Derived.OwnWalk
import Derived.Deep.AppendLies
import Derived.Lib.Hide
set_option linter.unusedVariables false
namespace Go.Proofs.YtpikndeefiediaaGreatDoor.V

/-- Does byte i of a text stand for a slash? -/
def sl (s : ByteArray) (i : Nat) : Bool := (s.get! i).toNat == 47
end Go.Proofs.YtpikndeefiediaaGreatDoor.V

namespace Go.Proofs.YtpikndeefiediaaGreatDoor.V
open Go.RowKit Go.Shelf

end Go.Proofs.YtpikndeefiediaaGreatDoor.V
