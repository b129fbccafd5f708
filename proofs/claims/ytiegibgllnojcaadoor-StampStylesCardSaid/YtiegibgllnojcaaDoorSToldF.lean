/-
  What stamp's told writes of F and T. Conditions: the date's numbers are within their bounds; the library's tables lie as their text lays them.
-/
import Derived.Test.YtiegibgllnojcaaDoorSTold
set_option linter.unusedVariables false
namespace Go.Proofs.YtiegibgllnojcaaDoor
open Go.RowKit

set_option maxHeartbeats 4000000 in
set_option maxRecDepth 100000 in
theorem told_T (t o y m d h i s wd yd : Int) (B : TellBd t o y m d h i s wd yd) (dir : ByteArray) (hz : 1 < dir.size) (w : World) (hT : STab w) (hc : (dir[1]'hz).toNat = 84) :
    Calls Tryd.prog 22 #[.agg #[.int .i64 t, .int .i64 o, .int .i64 y, .int .i64 m, .int .i64 d, .int .i64 h, .int .i64 i, .int .i64 s, .int .i64 wd, .int .i64 yd], .string dir] w fun e w' => e = .returned (.string (txt (twoL h.toNat ++ [58] ++ twoL i.toNat ++ [58] ++ twoL s.toNat))) ∧ Below w.heap.size w w' := by
  have HT := Lib.hid hT
  have HK := Lib.hid (InTold.start w t o y m d h i s wd yd)
  have BB := Lib.hid B
  clear hT B
  have h0 := BB.out.h0
  have hH := BB.out.hH
  have i0 := BB.out.i0
  have iH := BB.out.iH
  have s0 := BB.out.s0
  have sH := BB.out.sH
  obtain ⟨b1, b2, b3, b4, a1, a2, a3, a4, HE⟩ := five_add Tryd.prog (twoL h.toNat) (twoL i.toNat) (twoL s.toNat) (by rw [two_len]; omega) (by rw [two_len]; omega) (by rw [two_len]; omega) 58
  go_enter Tryd.func22, Tryd.ntmps22
  go_wp2_with fail
  have hk := HK.out
  clear HK
  go_region_held3 (fun w' => InTold w t o y m d h i s wd yd w' ∧ w'.cell? ⟨w.heap.size + 1, 3, none⟩ = some (.int .i64 h) ∧ w'.cell? ⟨w.heap.size + 1, 4, none⟩ = some (.int .i64 i) ∧ w'.cell? ⟨w.heap.size + 1, 5, none⟩ = some (.int .i64 s)) (first | exact ⟨hk, hk.c3, hk.c4, hk.c5⟩ | exact ⟨hk.drew, hk.c3, hk.c4, hk.c5⟩) (first | (go_at_call 31; refine (two_from (And.left (by assumption)) _ (by assumption) (by assumption) HT.out).mono ?_; rintro e w3 ⟨rfl, hk⟩))
  go_wp2_with fail
  go_ret
  exact ⟨ret_str HE.out, hk.below⟩

set_option maxHeartbeats 4000000 in
set_option maxRecDepth 100000 in
theorem told_F (t o y m d h i s wd yd : Int) (B : TellBd t o y m d h i s wd yd) (dir : ByteArray) (hz : 1 < dir.size) (w : World) (hT : STab w) (hc : (dir[1]'hz).toNat = 70) :
    Calls Tryd.prog 22 #[.agg #[.int .i64 t, .int .i64 o, .int .i64 y, .int .i64 m, .int .i64 d, .int .i64 h, .int .i64 i, .int .i64 s, .int .i64 wd, .int .i64 yd], .string dir] w fun e w' => e = .returned (.string (txt (Lib.itoa y ++ [45] ++ twoL m.toNat ++ [45] ++ twoL d.toNat))) ∧ Below w.heap.size w w' := by
  have HT := Lib.hid hT
  have HK := Lib.hid (InTold.start w t o y m d h i s wd yd)
  have BB := Lib.hid B
  clear hT B
  have y0 := BB.out.y0
  have y1 := BB.out.y1
  have m0 := BB.out.m0
  have mH := BB.out.mH
  have d0 := BB.out.d0
  have dH := BB.out.dH
  obtain ⟨b1, b2, b3, b4, a1, a2, a3, a4, HE⟩ := five_add Tryd.prog (Lib.itoa y) (twoL m.toNat) (twoL d.toNat) (itoa_len y y0 y1) (by rw [two_len]; omega) (by rw [two_len]; omega) 45
  go_enter Tryd.func22, Tryd.ntmps22
  go_wp2_with fail
  have hk := HK.out
  clear HK
  go_region_held3 (fun w' => InTold w t o y m d h i s wd yd w' ∧ w'.cell? ⟨w.heap.size + 1, 0, none⟩ = some (.int .i64 y) ∧ w'.cell? ⟨w.heap.size + 1, 1, none⟩ = some (.int .i64 m) ∧ w'.cell? ⟨w.heap.size + 1, 2, none⟩ = some (.int .i64 d)) (first | exact ⟨hk, hk.c0, hk.c1, hk.c2⟩ | exact ⟨hk.drew, hk.c0, hk.c1, hk.c2⟩) (first | (go_at_call 31; refine (two_from (And.left (by assumption)) _ (by assumption) (by assumption) HT.out).mono ?_; rintro e w3 ⟨rfl, hk⟩) | (go_at_call 8; refine (dec_from (And.left (by assumption)) _ (by assumption) (by assumption) HT.out).mono ?_; rintro e w3 ⟨rfl, hk⟩))
  go_wp2_with fail
  go_ret
  exact ⟨ret_str HE.out, hk.below⟩

end Go.Proofs.YtiegibgllnojcaaDoor
