/-
  What the reference's One writes of e. Conditions: the date's numbers are within their bounds.
-/
import Derived.Test.YtiegibgllnojcaaDoorSRefOne
set_option linter.unusedVariables false
namespace Go.Proofs.YtiegibgllnojcaaDoor
open Go.RowKit

theorem day_tail (d : Int) (h0 : 0 ≤ d) (h : d < 10) : (txt (twoL d.toNat)).extract 1 2 = txt [UInt8.ofNat (48 + d.toNat)] := by
  rw [two_small _ (by omega)]
  apply ByteArray.ext
  rw [ByteArray.data_extract]
  unfold txt
  simp
set_option maxHeartbeats 4000000 in
set_option maxRecDepth 100000 in
theorem one_e (t o y m d h i s wd yd : Int) (B : TellBd t o y m d h i s wd yd) (hv : dateV (t + offB o) = dv y m d h i s wd yd) (w : World) :
    Calls Tryd.prog 24 #[.int .u8 101, .int .i64 t, .int .i64 o] w fun e w' => e = .returned (.tuple #[.string (txt (dayL d)), .bool true]) ∧ Below w.heap.size w w' := by
  have BB := Lib.hid B
  have cO := refOf_any t o w B.t0 B.t1
  rw [hv, agg_of] at cO
  have hz : (txt (twoL d.toNat)).size = 2 := by rw [txt_size, two_len]
  clear B hv
  by_cases hd : d < 10
  · have HE : Hid (txt ([32, UInt8.ofNat (48 + d.toNat)]) = txt (dayL d)) := Lib.hid (by unfold dayL; rw [if_pos hd])
    have hx := day_tail d BB.out.d0 hd
    generalize UInt8.ofNat (48 + d.toNat) = x at *
    have hadd : ∀ w : World, (Op.stringOp .add ⟨#[32]⟩ (txt [x])).run Tryd.prog w = .ok (.string (txt [32, x])) w := fun w => by
      rw [run_string_add_sum _ _ _ (by rw [txt_size]; show 1 + 1 ≤ _; omega), show (⟨#[32]⟩ : ByteArray) = txt [32] from rfl, txt_append]
      rfl
    go_enter Tryd.func24, Tryd.ntmps24
    go_wp2_with fail
    refine cO.mono ?_
    rintro e w1 ⟨rfl, hb⟩
    have HK := Lib.hid (InOne.start hb y m d h i s wd yd)
    clear hb cO
    go_wp2_with fail
    refine (rtwo_from HK.out d BB.out.d0 BB.out.dH).mono ?_
    rintro e w2 ⟨rfl, hk⟩
    have HK2 := Lib.hid hk
    have c2 := hk.c2
    clear hk HK
    go_wp2_with fail
    go_ret2
    exact ⟨ret_told HE.out, HK2.out.below⟩
  · have HE : Hid (txt (twoL d.toNat) = txt (dayL d)) := Lib.hid (by unfold dayL; rw [if_neg hd])
    go_enter Tryd.func24, Tryd.ntmps24
    go_wp2_with fail
    refine cO.mono ?_
    rintro e w1 ⟨rfl, hb⟩
    have HK := Lib.hid (InOne.start hb y m d h i s wd yd)
    clear hb cO
    go_wp2_with fail
    refine (rtwo_from HK.out d BB.out.d0 BB.out.dH).mono ?_
    rintro e w2 ⟨rfl, hk⟩
    have HK2 := Lib.hid hk
    have c2 := hk.c2
    clear hk HK
    go_wp2_with fail
    go_ret2
    exact ⟨ret_told HE.out, HK2.out.below⟩
end Go.Proofs.YtiegibgllnojcaaDoor
