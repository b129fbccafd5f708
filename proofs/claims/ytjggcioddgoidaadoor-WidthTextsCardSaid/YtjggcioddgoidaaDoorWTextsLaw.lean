/-
  The law WidthTexts, walked: it returns true. Conditions: the text's length is an int; the package's table lies as its text lays it.
-/
import Derived.Test.YtjggcioddgoidaaDoorWTexts
namespace Go.Proofs.YtjggcioddgoidaaDoor
open Go.RowKit

theorem texts_walk (s : ByteArray) (most : Int) (w : World) (hz : s.size ≤ 9223372036854775807) (ht : Tab w) :
    Calls Tryd.prog 4 #[.string s, .int .i64 most] w fun e w' => e = .returned (.bool true) ∧ Below w.heap.size w w' := by
  have HT := Lib.hid ht
  clear ht
  go_enter Tryd.func4, Tryd.ntmps4
  go_wp2_with fail
  refine (awake_any _ HT.out).mono ?_
  rintro e w1 ⟨rfl, hb⟩
  have HB := Lib.hid hb
  clear hb
  by_cases hl : 200 < s.size
  · go_wp2_with fail
    refine (awake_any _ (HT.out.keep HB.out)).mono ?_
    rintro e w2 ⟨rfl, hb⟩
    have HB2 := Lib.hid (below_two HB.out hb)
    clear hb
    go_wp2_with fail
    go_ret
    exact ⟨rfl, HB2.out⟩
  · go_wp2_with fail
    refine (of_any _ _ (by omega) (HT.out.keep HB.out)).mono ?_
    rintro e w2 ⟨rfl, hb⟩
    have HB2 := Lib.hid (below_two HB.out hb)
    clear hb
    go_wp2_with fail
    refine (refOf_any _ _ (by omega)).mono ?_
    rintro e w3 ⟨rfl, hb⟩
    have HB3 := Lib.hid (below_two HB2.out hb)
    clear hb
    go_wp2_with fail
    refine (cut_any _ _ _ (by omega) (HT.out.keep HB3.out)).mono ?_
    rintro e w4 ⟨rfl, hb⟩
    have HB4 := Lib.hid (below_two HB3.out hb)
    clear hb
    go_wp2_with fail
    refine (refCut_any _ _ _ (by omega)).mono ?_
    rintro e w5 ⟨rfl, hb⟩
    have HB5 := Lib.hid (below_two HB4.out hb)
    clear hb
    go_wp2_with fail
    go_ret
    exact ⟨rfl, HB5.out⟩
end Go.Proofs.YtjggcioddgoidaaDoor
