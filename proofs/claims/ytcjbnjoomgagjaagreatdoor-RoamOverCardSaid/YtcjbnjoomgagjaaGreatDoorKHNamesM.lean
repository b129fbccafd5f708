/-
  A path's names: what stands between its slashes, by bytes; the library's way, by runes, gives the same. Conditions: none.
-/
import Derived.Lib.FieldsP
import Derived.Lib.SpaceUEq
import Derived.Lib.TrimU
namespace Go.Proofs.YtcjbnjoomgagjaaGreatDoor.V
def sl (s : ByteArray) (i : Nat) : Bool := (s.get! i).toNat == 47
end Go.Proofs.YtcjbnjoomgagjaaGreatDoor.V
