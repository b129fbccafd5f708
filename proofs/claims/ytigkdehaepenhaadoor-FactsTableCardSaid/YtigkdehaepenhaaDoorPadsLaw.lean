/-
  What padding on the left returns; and the law DigitsPads, walked. Conditions: the widths are ints, the text has at most 100 bytes; the library's tables lie as their text lays them.
-/
import Derived.Test.YtigkdehaepenhaaDoorDec
import Derived.Test.YtigkdehaepenhaaDoorPads
namespace Go.Proofs.YtigkdehaepenhaaDoor.N
open Go.RowKit
theorem right_any (t : ByteArray) (a b : Int) (w : World) (ht : t.size ≤ 100) :
    Calls Tryd.prog 22 #[.string t, .int .i64 a, .int .i64 b] w fun e w' => e = .returned (.string (blankS (lackN a b) ++ t)) ∧ Below w.heap.size w w' := by
  have ca := clamp_bd a; have cb := clamp_bd b
  obtain ⟨B, hB, _, _, hadd⟩ := add_blank Tryd.prog t a b ht
  have HA := Lib.hid hadd
  have EB := Lib.hid hB
  clear hadd hB
  go_enter Tryd.func22, Tryd.ntmps22
  go_wp2_with fail
  refine (place_any a b _).mono ?_
  rintro e w' ⟨rfl, rfl⟩
  go_wp2_with fail
  refine (blanks_any _ _ _ ca.1 ca.2 cb.1 cb.2).mono ?_
  rintro e w' ⟨rfl, hb⟩
  have HB := Lib.hid hb
  clear hb
  have hadd := HA.out w'
  rw [show blankS (clampZ b - clampZ a).toNat = B from EB.out.symm]
  go_wp2_with fail
  go_ret
  exact ⟨ret_str (by rw [EB.out]), HB.out⟩


end Go.Proofs.YtigkdehaepenhaaDoor.N
