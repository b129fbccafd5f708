/-
  The law WidthRunes, walked: it returns true. Conditions: the number is an int32; the package's table lies as its text lays it.
-/
import Derived.Test.YtjggcioddgoidaaDoorWOf
import Derived.Test.YtjggcioddgoidaaDoorWRefW
namespace Go.Proofs.YtjggcioddgoidaaDoor
open Go.RowKit

theorem runes_walk (r : Int) (w : World) (h1 : -2147483648 ≤ r) (h2 : r ≤ 2147483647) (ht : Tab w) :
    Calls Tryd.prog 3 #[.int .i32 r] w fun e w' => e = .returned (.bool true) ∧ Below w.heap.size w w' := by
  have HT := Lib.hid ht
  clear ht
  go_enter Tryd.func3, Tryd.ntmps3
  go_wp2_with fail
  refine (awake_any _ HT.out).mono ?_
  rintro e w1 ⟨rfl, hb⟩
  have HB := Lib.hid hb
  clear hb
  go_wp2_with fail
  refine (rune_any _ _ (HT.out.keep HB.out)).mono ?_
  rintro e w2 ⟨rfl, hb⟩
  have HB2 := Lib.hid (below_two HB.out hb)
  clear hb
  go_wp2_with fail
  refine (refW_any _ _).mono ?_
  rintro e w3 ⟨rfl, hb⟩
  have HB3 := Lib.hid (below_two HB2.out hb)
  clear hb
  go_wp2_with fail
  go_ret
  exact ⟨rfl, HB3.out⟩
end Go.Proofs.YtjggcioddgoidaaDoor
