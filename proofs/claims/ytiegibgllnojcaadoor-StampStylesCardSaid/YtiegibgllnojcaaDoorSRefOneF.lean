/-
  What the reference's One writes of F and T. Conditions: the date's numbers are within their bounds.
-/
import Derived.Test.YtiegibgllnojcaaDoorSRefOne
set_option linter.unusedVariables false
namespace Go.Proofs.YtiegibgllnojcaaDoor
open Go.RowKit

set_option maxHeartbeats 4000000 in
set_option maxRecDepth 100000 in
theorem one_T (t o y m d h i s wd yd : Int) (B : TellBd t o y m d h i s wd yd) (hv : dateV (t + offB o) = dv y m d h i s wd yd) (w : World) :
    Calls Tryd.prog 24 #[.int .u8 84, .int .i64 t, .int .i64 o] w fun e w' => e = .returned (.tuple #[.string (txt (twoL h.toNat ++ [58] ++ twoL i.toNat ++ [58] ++ twoL s.toNat)), .bool true]) ∧ Below w.heap.size w w' := by
  have BB := Lib.hid B
  have cO := refOf_any t o w B.t0 B.t1
  rw [hv, agg_of] at cO
  clear B hv
  have h0 := BB.out.h0
  have hH := BB.out.hH
  have i0 := BB.out.i0
  have iH := BB.out.iH
  have s0 := BB.out.s0
  have sH := BB.out.sH
  obtain ⟨b1, b2, b3, b4, a1, a2, a3, a4, HE⟩ := five_add Tryd.prog (twoL h.toNat) (twoL i.toNat) (twoL s.toNat) (by rw [two_len]; omega) (by rw [two_len]; omega) (by rw [two_len]; omega) 58
  go_enter Tryd.func24, Tryd.ntmps24
  go_wp2_with fail
  refine cO.mono ?_
  rintro e w1 ⟨rfl, hb⟩
  have HK := Lib.hid (InOne.start hb y m d h i s wd yd)
  clear hb cO
  go_wp2_with fail
  have hk := HK.out
  clear HK
  go_region_held3 (fun w' => InOne w w1.heap.size y m d h i s wd yd w' ∧ w'.cell? ⟨w1.heap.size, 3, none⟩ = some (.int .i64 h) ∧ w'.cell? ⟨w1.heap.size, 4, none⟩ = some (.int .i64 i) ∧ w'.cell? ⟨w1.heap.size, 5, none⟩ = some (.int .i64 s)) (first | exact ⟨hk, hk.c3, hk.c4, hk.c5⟩ | exact ⟨hk.drew, hk.c3, hk.c4, hk.c5⟩) (first | (go_at_call 36; refine (rtwo_from (And.left (by assumption)) _ (by assumption) (by assumption)).mono ?_; rintro e w3 ⟨rfl, hk⟩))
  go_wp2_with fail
  go_ret2
  exact ⟨ret_told HE.out, hk.below⟩

set_option maxHeartbeats 4000000 in
set_option maxRecDepth 100000 in
theorem one_F (t o y m d h i s wd yd : Int) (B : TellBd t o y m d h i s wd yd) (hv : dateV (t + offB o) = dv y m d h i s wd yd) (w : World) :
    Calls Tryd.prog 24 #[.int .u8 70, .int .i64 t, .int .i64 o] w fun e w' => e = .returned (.tuple #[.string (txt (Lib.itoa y ++ [45] ++ twoL m.toNat ++ [45] ++ twoL d.toNat)), .bool true]) ∧ Below w.heap.size w w' := by
  have BB := Lib.hid B
  have cO := refOf_any t o w B.t0 B.t1
  rw [hv, agg_of] at cO
  clear B hv
  have y0 := BB.out.y0
  have y1 := BB.out.y1
  have m0 := BB.out.m0
  have mH := BB.out.mH
  have d0 := BB.out.d0
  have dH := BB.out.dH
  obtain ⟨b1, b2, b3, b4, a1, a2, a3, a4, HE⟩ := five_add Tryd.prog (Lib.itoa y) (twoL m.toNat) (twoL d.toNat) (itoa_len y y0 y1) (by rw [two_len]; omega) (by rw [two_len]; omega) 45
  go_enter Tryd.func24, Tryd.ntmps24
  go_wp2_with fail
  refine cO.mono ?_
  rintro e w1 ⟨rfl, hb⟩
  have HK := Lib.hid (InOne.start hb y m d h i s wd yd)
  clear hb cO
  go_wp2_with fail
  have hk := HK.out
  clear HK
  go_region_held3 (fun w' => InOne w w1.heap.size y m d h i s wd yd w' ∧ w'.cell? ⟨w1.heap.size, 0, none⟩ = some (.int .i64 y) ∧ w'.cell? ⟨w1.heap.size, 1, none⟩ = some (.int .i64 m) ∧ w'.cell? ⟨w1.heap.size, 2, none⟩ = some (.int .i64 d)) (first | exact ⟨hk, hk.c0, hk.c1, hk.c2⟩ | exact ⟨hk.drew, hk.c0, hk.c1, hk.c2⟩) (first | (go_at_call 36; refine (rtwo_from (And.left (by assumption)) _ (by assumption) (by assumption)).mono ?_; rintro e w3 ⟨rfl, hk⟩) | (go_at_call 35; refine (rdec_from (And.left (by assumption)) _ (by assumption) (by assumption)).mono ?_; rintro e w3 ⟨rfl, hk⟩))
  go_wp2_with fail
  go_ret2
  exact ⟨ret_told HE.out, hk.below⟩

end Go.Proofs.YtiegibgllnojcaaDoor
