/-
  What is wrong with a change, as the program tells it.
  Conditions: each fact's own.
-/
import Derived.Test.YtfhagjnlliafiaaGreatDoorKVEntry
import Derived.Test.YtfhagjnlliafiaaGreatDoorKVAdd
import Derived.OwnWalk
import Derived.Test.YtfhagjnlliafiaaGreatDoorKVBuild
import Derived.Deep.RegionHeld3
set_option linter.unusedVariables false
set_option maxHeartbeats 8000000
set_option maxRecDepth 100000
namespace Go.Proofs.YtfhagjnlliafiaaGreatDoor.V
open Go.RowKit
def makesB (k : Int) : Bool := k == 0 || k == 1 || k == 3 || k == 7
def baseE (M : Int → Option Nd) (c : Chg) : Int := if 0 ≤ c.kind ∧ c.kind ≤ 3 then entryE M c else if 4 ≤ c.kind ∧ c.kind ≤ 8 then nodeE M c else 1
def refuseE (M : Int → Option Nd) (len : Nat) (c : Chg) : Int := if baseE M c = 0 ∧ makesB c.kind = true ∧ 300 ≤ len then 9 else baseE M c
theorem kind_no {k : Int} (j : Int) (h : k ≠ j) : (k == j) = false := by simp [h]
theorem kind_yes {k : Int} (j : Int) (h : k = j) : (k == j) = true := by simp [h]
theorem refuse_rest {M : Int → Option Nd} {len : Nat} {c : Chg} {e : Int} (h : baseE M c = e) :
    (e ≠ 0 → refuseE M len c = e) ∧ (e = 0 → makesB c.kind = false → refuseE M len c = e) ∧ (e = 0 → makesB c.kind = true → 300 ≤ len → refuseE M len c = 9) ∧ (e = 0 → makesB c.kind = true → ¬ 300 ≤ len → refuseE M len c = e) := by
  unfold refuseE
  rw [h]
  refine ⟨fun q => if_neg (fun x => q x.1), fun _ q => if_neg (fun x => by rw [q] at x; cases x.2.1), fun a b d => if_pos ⟨a, b, d⟩, fun _ _ q => if_neg (fun x => q x.2.2)⟩
theorem refuse_0 (h : Fsh) (c : Chg) (w : World) (H : Fs h w) (hn : 0 < h.X.length) (hE : ∀ x ∈ h.X, x.1.ents.length ≤ 1000000) (hk : c.kind = 0) :
    Calls Tryz.prog 37 #[.pointer (some ⟨h.p, 0, none⟩), chgV c] w fun e w' => e = .returned (.int .i64 (refuseE (ndAt h) h.X.length c)) ∧ Below w.heap.size w w' := by
  obtain ⟨g, cap, hv, _, _⟩ := H.slice hn
  have HP := Lib.hid (show ∀ W, Below w.heap.size w W → W.cell? ⟨h.p, 0, none⟩ = some (.slice (some ⟨g, 0, none⟩) h.X.length cap) from fun W hb => by rw [← hv]; exact (H.keep hb).cell0)
  have HBa := Lib.hid (show ∀ o, Below w.heap.size w (w.alloc o) from fun o => (Below.refl _ _).alloc (Nat.le_refl _) _)
  have HCALL := Lib.hid (entry_any h c (w.alloc (chgBox c)) (H.keep (HBa.out _)) hn hE)
  obtain ⟨e0, he0⟩ : ∃ e0, entryE (ndAt h) c = e0 := ⟨_, rfl⟩
  have HE := Lib.hid he0
  obtain ⟨r1, r2, r3, r4⟩ := refuse_rest (len := h.X.length) (show baseE (ndAt h) c = e0 from by unfold baseE; rw [if_pos (by omega)]; exact he0)
  have R1 := Lib.hid r1
  have R2 := Lib.hid r2
  have R3 := Lib.hid r3
  have R4 := Lib.hid r4
  have HCV := Lib.hid (show chgV c = .agg #[.int .i64 c.kind, .int .i64 c.at_, .int .i64 c.to, .string c.name, .string c.text, .int .i64 c.a, .int .i64 c.b, .int .i64 c.n] from rfl)
  have t0 : (c.kind == 0) = true := kind_yes 0 (by omega)
  have t1 : (c.kind == 1) = false := kind_no 1 (by omega)
  have t2 : (c.kind == 2) = false := kind_no 2 (by omega)
  have t3 : (c.kind == 3) = false := kind_no 3 (by omega)
  have t4 : (c.kind == 4) = false := kind_no 4 (by omega)
  have t5 : (c.kind == 5) = false := kind_no 5 (by omega)
  have t6 : (c.kind == 6) = false := kind_no 6 (by omega)
  have t7 : (c.kind == 7) = false := kind_no 7 (by omega)
  have t8 : (c.kind == 8) = false := kind_no 8 (by omega)
  have hmm : makesB c.kind = true := by unfold makesB; rw [t0, t1, t3, t7]; rfl
  have HM := Lib.hid hmm
  have hm : (c.kind == 0 || c.kind == 1 || c.kind == 3 || c.kind == 7) = true := hmm
  clear hmm r1 r2 r3 r4 he0 hk hv H hE
  rw [HCV.out]
  by_cases h0 : e0 = 0
  · have b0 : (e0 == 0) = true := by simp [h0]
    have H0 := Lib.hid h0
    clear h0
    by_cases hl : 300 ≤ h.X.length
    · have dl : decide ((300 : Int) ≤ (h.X.length : Int)) = true := decide_eq_true (by omega)
      go_enter Tryz.func37, Tryz.ntmps37
      go_wp2_with (first
        | (go_at_call 60; rw [← HCV.out]; refine HCALL.out.mono ?_; rintro e w2 ⟨rfl, hb2⟩; rw [HE.out]; have HB2 := Lib.hid (below_two (HBa.out _) hb2); obtain ⟨q0, q1, q2, q3, q4, q5, q6, q7⟩ := chg_cells (box_keep hb2); have z0 := HP.out _ HB2.out; clear hb2)
        | (go_at_call 62; refine (makes_any c.kind _).mono ?_; rintro e w3 ⟨rfl, hw⟩; subst hw; rw [hm]))
      go_ret
      exact ⟨ret_int (R3.out H0.out HM.out hl).symm, HB2.out⟩
    · have dl : decide ((300 : Int) ≤ (h.X.length : Int)) = false := decide_eq_false (by omega)
      go_enter Tryz.func37, Tryz.ntmps37
      go_wp2_with (first
        | (go_at_call 60; rw [← HCV.out]; refine HCALL.out.mono ?_; rintro e w2 ⟨rfl, hb2⟩; rw [HE.out]; have HB2 := Lib.hid (below_two (HBa.out _) hb2); obtain ⟨q0, q1, q2, q3, q4, q5, q6, q7⟩ := chg_cells (box_keep hb2); have z0 := HP.out _ HB2.out; clear hb2)
        | (go_at_call 62; refine (makes_any c.kind _).mono ?_; rintro e w3 ⟨rfl, hw⟩; subst hw; rw [hm]))
      go_ret
      exact ⟨ret_int (R4.out H0.out HM.out hl).symm, HB2.out⟩
  · have b0 : (e0 == 0) = false := by simp [h0]
    have H0 := Lib.hid h0
    clear h0
    go_enter Tryz.func37, Tryz.ntmps37
    go_wp2_with (first
      | (go_at_call 60; rw [← HCV.out]; refine HCALL.out.mono ?_; rintro e w2 ⟨rfl, hb2⟩; rw [HE.out]; have HB2 := Lib.hid (below_two (HBa.out _) hb2); obtain ⟨q0, q1, q2, q3, q4, q5, q6, q7⟩ := chg_cells (box_keep hb2); have z0 := HP.out _ HB2.out; clear hb2)
      | (go_at_call 62; refine (makes_any c.kind _).mono ?_; rintro e w3 ⟨rfl, hw⟩; subst hw; rw [hm]))
    go_ret
    exact ⟨ret_int (R1.out H0.out).symm, HB2.out⟩
theorem refuse_1 (h : Fsh) (c : Chg) (w : World) (H : Fs h w) (hn : 0 < h.X.length) (hE : ∀ x ∈ h.X, x.1.ents.length ≤ 1000000) (hk : c.kind = 1) :
    Calls Tryz.prog 37 #[.pointer (some ⟨h.p, 0, none⟩), chgV c] w fun e w' => e = .returned (.int .i64 (refuseE (ndAt h) h.X.length c)) ∧ Below w.heap.size w w' := by
  obtain ⟨g, cap, hv, _, _⟩ := H.slice hn
  have HP := Lib.hid (show ∀ W, Below w.heap.size w W → W.cell? ⟨h.p, 0, none⟩ = some (.slice (some ⟨g, 0, none⟩) h.X.length cap) from fun W hb => by rw [← hv]; exact (H.keep hb).cell0)
  have HBa := Lib.hid (show ∀ o, Below w.heap.size w (w.alloc o) from fun o => (Below.refl _ _).alloc (Nat.le_refl _) _)
  have HCALL := Lib.hid (entry_any h c (w.alloc (chgBox c)) (H.keep (HBa.out _)) hn hE)
  obtain ⟨e0, he0⟩ : ∃ e0, entryE (ndAt h) c = e0 := ⟨_, rfl⟩
  have HE := Lib.hid he0
  obtain ⟨r1, r2, r3, r4⟩ := refuse_rest (len := h.X.length) (show baseE (ndAt h) c = e0 from by unfold baseE; rw [if_pos (by omega)]; exact he0)
  have R1 := Lib.hid r1
  have R2 := Lib.hid r2
  have R3 := Lib.hid r3
  have R4 := Lib.hid r4
  have HCV := Lib.hid (show chgV c = .agg #[.int .i64 c.kind, .int .i64 c.at_, .int .i64 c.to, .string c.name, .string c.text, .int .i64 c.a, .int .i64 c.b, .int .i64 c.n] from rfl)
  have t0 : (c.kind == 0) = false := kind_no 0 (by omega)
  have t1 : (c.kind == 1) = true := kind_yes 1 (by omega)
  have t2 : (c.kind == 2) = false := kind_no 2 (by omega)
  have t3 : (c.kind == 3) = false := kind_no 3 (by omega)
  have t4 : (c.kind == 4) = false := kind_no 4 (by omega)
  have t5 : (c.kind == 5) = false := kind_no 5 (by omega)
  have t6 : (c.kind == 6) = false := kind_no 6 (by omega)
  have t7 : (c.kind == 7) = false := kind_no 7 (by omega)
  have t8 : (c.kind == 8) = false := kind_no 8 (by omega)
  have hmm : makesB c.kind = true := by unfold makesB; rw [t0, t1, t3, t7]; rfl
  have HM := Lib.hid hmm
  have hm : (c.kind == 0 || c.kind == 1 || c.kind == 3 || c.kind == 7) = true := hmm
  clear hmm r1 r2 r3 r4 he0 hk hv H hE
  rw [HCV.out]
  by_cases h0 : e0 = 0
  · have b0 : (e0 == 0) = true := by simp [h0]
    have H0 := Lib.hid h0
    clear h0
    by_cases hl : 300 ≤ h.X.length
    · have dl : decide ((300 : Int) ≤ (h.X.length : Int)) = true := decide_eq_true (by omega)
      go_enter Tryz.func37, Tryz.ntmps37
      go_wp2_with (first
        | (go_at_call 60; rw [← HCV.out]; refine HCALL.out.mono ?_; rintro e w2 ⟨rfl, hb2⟩; rw [HE.out]; have HB2 := Lib.hid (below_two (HBa.out _) hb2); obtain ⟨q0, q1, q2, q3, q4, q5, q6, q7⟩ := chg_cells (box_keep hb2); have z0 := HP.out _ HB2.out; clear hb2)
        | (go_at_call 62; refine (makes_any c.kind _).mono ?_; rintro e w3 ⟨rfl, hw⟩; subst hw; rw [hm]))
      go_ret
      exact ⟨ret_int (R3.out H0.out HM.out hl).symm, HB2.out⟩
    · have dl : decide ((300 : Int) ≤ (h.X.length : Int)) = false := decide_eq_false (by omega)
      go_enter Tryz.func37, Tryz.ntmps37
      go_wp2_with (first
        | (go_at_call 60; rw [← HCV.out]; refine HCALL.out.mono ?_; rintro e w2 ⟨rfl, hb2⟩; rw [HE.out]; have HB2 := Lib.hid (below_two (HBa.out _) hb2); obtain ⟨q0, q1, q2, q3, q4, q5, q6, q7⟩ := chg_cells (box_keep hb2); have z0 := HP.out _ HB2.out; clear hb2)
        | (go_at_call 62; refine (makes_any c.kind _).mono ?_; rintro e w3 ⟨rfl, hw⟩; subst hw; rw [hm]))
      go_ret
      exact ⟨ret_int (R4.out H0.out HM.out hl).symm, HB2.out⟩
  · have b0 : (e0 == 0) = false := by simp [h0]
    have H0 := Lib.hid h0
    clear h0
    go_enter Tryz.func37, Tryz.ntmps37
    go_wp2_with (first
      | (go_at_call 60; rw [← HCV.out]; refine HCALL.out.mono ?_; rintro e w2 ⟨rfl, hb2⟩; rw [HE.out]; have HB2 := Lib.hid (below_two (HBa.out _) hb2); obtain ⟨q0, q1, q2, q3, q4, q5, q6, q7⟩ := chg_cells (box_keep hb2); have z0 := HP.out _ HB2.out; clear hb2)
      | (go_at_call 62; refine (makes_any c.kind _).mono ?_; rintro e w3 ⟨rfl, hw⟩; subst hw; rw [hm]))
    go_ret
    exact ⟨ret_int (R1.out H0.out).symm, HB2.out⟩
theorem refuse_2 (h : Fsh) (c : Chg) (w : World) (H : Fs h w) (hn : 0 < h.X.length) (hE : ∀ x ∈ h.X, x.1.ents.length ≤ 1000000) (hk : c.kind = 2) :
    Calls Tryz.prog 37 #[.pointer (some ⟨h.p, 0, none⟩), chgV c] w fun e w' => e = .returned (.int .i64 (refuseE (ndAt h) h.X.length c)) ∧ Below w.heap.size w w' := by
  obtain ⟨g, cap, hv, _, _⟩ := H.slice hn
  have HP := Lib.hid (show ∀ W, Below w.heap.size w W → W.cell? ⟨h.p, 0, none⟩ = some (.slice (some ⟨g, 0, none⟩) h.X.length cap) from fun W hb => by rw [← hv]; exact (H.keep hb).cell0)
  have HBa := Lib.hid (show ∀ o, Below w.heap.size w (w.alloc o) from fun o => (Below.refl _ _).alloc (Nat.le_refl _) _)
  have HCALL := Lib.hid (entry_any h c (w.alloc (chgBox c)) (H.keep (HBa.out _)) hn hE)
  obtain ⟨e0, he0⟩ : ∃ e0, entryE (ndAt h) c = e0 := ⟨_, rfl⟩
  have HE := Lib.hid he0
  obtain ⟨r1, r2, r3, r4⟩ := refuse_rest (len := h.X.length) (show baseE (ndAt h) c = e0 from by unfold baseE; rw [if_pos (by omega)]; exact he0)
  have R1 := Lib.hid r1
  have R2 := Lib.hid r2
  have R3 := Lib.hid r3
  have R4 := Lib.hid r4
  have HCV := Lib.hid (show chgV c = .agg #[.int .i64 c.kind, .int .i64 c.at_, .int .i64 c.to, .string c.name, .string c.text, .int .i64 c.a, .int .i64 c.b, .int .i64 c.n] from rfl)
  have t0 : (c.kind == 0) = false := kind_no 0 (by omega)
  have t1 : (c.kind == 1) = false := kind_no 1 (by omega)
  have t2 : (c.kind == 2) = true := kind_yes 2 (by omega)
  have t3 : (c.kind == 3) = false := kind_no 3 (by omega)
  have t4 : (c.kind == 4) = false := kind_no 4 (by omega)
  have t5 : (c.kind == 5) = false := kind_no 5 (by omega)
  have t6 : (c.kind == 6) = false := kind_no 6 (by omega)
  have t7 : (c.kind == 7) = false := kind_no 7 (by omega)
  have t8 : (c.kind == 8) = false := kind_no 8 (by omega)
  have hmm : makesB c.kind = false := by unfold makesB; rw [t0, t1, t3, t7]; rfl
  have HM := Lib.hid hmm
  have hm : (c.kind == 0 || c.kind == 1 || c.kind == 3 || c.kind == 7) = false := hmm
  clear hmm r1 r2 r3 r4 he0 hk hv H hE
  rw [HCV.out]
  by_cases h0 : e0 = 0
  · have b0 : (e0 == 0) = true := by simp [h0]
    have H0 := Lib.hid h0
    clear h0
    go_enter Tryz.func37, Tryz.ntmps37
    go_wp2_with (first
      | (go_at_call 60; rw [← HCV.out]; refine HCALL.out.mono ?_; rintro e w2 ⟨rfl, hb2⟩; rw [HE.out]; have HB2 := Lib.hid (below_two (HBa.out _) hb2); obtain ⟨q0, q1, q2, q3, q4, q5, q6, q7⟩ := chg_cells (box_keep hb2); have z0 := HP.out _ HB2.out; clear hb2)
      | (go_at_call 62; refine (makes_any c.kind _).mono ?_; rintro e w3 ⟨rfl, hw⟩; subst hw; rw [hm]))
    go_ret
    exact ⟨ret_int (R2.out H0.out HM.out).symm, HB2.out⟩
  · have b0 : (e0 == 0) = false := by simp [h0]
    have H0 := Lib.hid h0
    clear h0
    go_enter Tryz.func37, Tryz.ntmps37
    go_wp2_with (first
      | (go_at_call 60; rw [← HCV.out]; refine HCALL.out.mono ?_; rintro e w2 ⟨rfl, hb2⟩; rw [HE.out]; have HB2 := Lib.hid (below_two (HBa.out _) hb2); obtain ⟨q0, q1, q2, q3, q4, q5, q6, q7⟩ := chg_cells (box_keep hb2); have z0 := HP.out _ HB2.out; clear hb2)
      | (go_at_call 62; refine (makes_any c.kind _).mono ?_; rintro e w3 ⟨rfl, hw⟩; subst hw; rw [hm]))
    go_ret
    exact ⟨ret_int (R1.out H0.out).symm, HB2.out⟩
theorem refuse_3 (h : Fsh) (c : Chg) (w : World) (H : Fs h w) (hn : 0 < h.X.length) (hE : ∀ x ∈ h.X, x.1.ents.length ≤ 1000000) (hk : c.kind = 3) :
    Calls Tryz.prog 37 #[.pointer (some ⟨h.p, 0, none⟩), chgV c] w fun e w' => e = .returned (.int .i64 (refuseE (ndAt h) h.X.length c)) ∧ Below w.heap.size w w' := by
  obtain ⟨g, cap, hv, _, _⟩ := H.slice hn
  have HP := Lib.hid (show ∀ W, Below w.heap.size w W → W.cell? ⟨h.p, 0, none⟩ = some (.slice (some ⟨g, 0, none⟩) h.X.length cap) from fun W hb => by rw [← hv]; exact (H.keep hb).cell0)
  have HBa := Lib.hid (show ∀ o, Below w.heap.size w (w.alloc o) from fun o => (Below.refl _ _).alloc (Nat.le_refl _) _)
  have HCALL := Lib.hid (entry_any h c (w.alloc (chgBox c)) (H.keep (HBa.out _)) hn hE)
  obtain ⟨e0, he0⟩ : ∃ e0, entryE (ndAt h) c = e0 := ⟨_, rfl⟩
  have HE := Lib.hid he0
  obtain ⟨r1, r2, r3, r4⟩ := refuse_rest (len := h.X.length) (show baseE (ndAt h) c = e0 from by unfold baseE; rw [if_pos (by omega)]; exact he0)
  have R1 := Lib.hid r1
  have R2 := Lib.hid r2
  have R3 := Lib.hid r3
  have R4 := Lib.hid r4
  have HCV := Lib.hid (show chgV c = .agg #[.int .i64 c.kind, .int .i64 c.at_, .int .i64 c.to, .string c.name, .string c.text, .int .i64 c.a, .int .i64 c.b, .int .i64 c.n] from rfl)
  have t0 : (c.kind == 0) = false := kind_no 0 (by omega)
  have t1 : (c.kind == 1) = false := kind_no 1 (by omega)
  have t2 : (c.kind == 2) = false := kind_no 2 (by omega)
  have t3 : (c.kind == 3) = true := kind_yes 3 (by omega)
  have t4 : (c.kind == 4) = false := kind_no 4 (by omega)
  have t5 : (c.kind == 5) = false := kind_no 5 (by omega)
  have t6 : (c.kind == 6) = false := kind_no 6 (by omega)
  have t7 : (c.kind == 7) = false := kind_no 7 (by omega)
  have t8 : (c.kind == 8) = false := kind_no 8 (by omega)
  have hmm : makesB c.kind = true := by unfold makesB; rw [t0, t1, t3, t7]; rfl
  have HM := Lib.hid hmm
  have hm : (c.kind == 0 || c.kind == 1 || c.kind == 3 || c.kind == 7) = true := hmm
  clear hmm r1 r2 r3 r4 he0 hk hv H hE
  rw [HCV.out]
  by_cases h0 : e0 = 0
  · have b0 : (e0 == 0) = true := by simp [h0]
    have H0 := Lib.hid h0
    clear h0
    by_cases hl : 300 ≤ h.X.length
    · have dl : decide ((300 : Int) ≤ (h.X.length : Int)) = true := decide_eq_true (by omega)
      go_enter Tryz.func37, Tryz.ntmps37
      go_wp2_with (first
        | (go_at_call 60; rw [← HCV.out]; refine HCALL.out.mono ?_; rintro e w2 ⟨rfl, hb2⟩; rw [HE.out]; have HB2 := Lib.hid (below_two (HBa.out _) hb2); obtain ⟨q0, q1, q2, q3, q4, q5, q6, q7⟩ := chg_cells (box_keep hb2); have z0 := HP.out _ HB2.out; clear hb2)
        | (go_at_call 62; refine (makes_any c.kind _).mono ?_; rintro e w3 ⟨rfl, hw⟩; subst hw; rw [hm]))
      go_ret
      exact ⟨ret_int (R3.out H0.out HM.out hl).symm, HB2.out⟩
    · have dl : decide ((300 : Int) ≤ (h.X.length : Int)) = false := decide_eq_false (by omega)
      go_enter Tryz.func37, Tryz.ntmps37
      go_wp2_with (first
        | (go_at_call 60; rw [← HCV.out]; refine HCALL.out.mono ?_; rintro e w2 ⟨rfl, hb2⟩; rw [HE.out]; have HB2 := Lib.hid (below_two (HBa.out _) hb2); obtain ⟨q0, q1, q2, q3, q4, q5, q6, q7⟩ := chg_cells (box_keep hb2); have z0 := HP.out _ HB2.out; clear hb2)
        | (go_at_call 62; refine (makes_any c.kind _).mono ?_; rintro e w3 ⟨rfl, hw⟩; subst hw; rw [hm]))
      go_ret
      exact ⟨ret_int (R4.out H0.out HM.out hl).symm, HB2.out⟩
  · have b0 : (e0 == 0) = false := by simp [h0]
    have H0 := Lib.hid h0
    clear h0
    go_enter Tryz.func37, Tryz.ntmps37
    go_wp2_with (first
      | (go_at_call 60; rw [← HCV.out]; refine HCALL.out.mono ?_; rintro e w2 ⟨rfl, hb2⟩; rw [HE.out]; have HB2 := Lib.hid (below_two (HBa.out _) hb2); obtain ⟨q0, q1, q2, q3, q4, q5, q6, q7⟩ := chg_cells (box_keep hb2); have z0 := HP.out _ HB2.out; clear hb2)
      | (go_at_call 62; refine (makes_any c.kind _).mono ?_; rintro e w3 ⟨rfl, hw⟩; subst hw; rw [hm]))
    go_ret
    exact ⟨ret_int (R1.out H0.out).symm, HB2.out⟩
theorem refuse_4 (h : Fsh) (c : Chg) (w : World) (H : Fs h w) (hn : 0 < h.X.length) (hE : ∀ x ∈ h.X, x.1.ents.length ≤ 1000000) (hk : c.kind = 4) :
    Calls Tryz.prog 37 #[.pointer (some ⟨h.p, 0, none⟩), chgV c] w fun e w' => e = .returned (.int .i64 (refuseE (ndAt h) h.X.length c)) ∧ Below w.heap.size w w' := by
  obtain ⟨g, cap, hv, _, _⟩ := H.slice hn
  have HP := Lib.hid (show ∀ W, Below w.heap.size w W → W.cell? ⟨h.p, 0, none⟩ = some (.slice (some ⟨g, 0, none⟩) h.X.length cap) from fun W hb => by rw [← hv]; exact (H.keep hb).cell0)
  have HBa := Lib.hid (show ∀ o, Below w.heap.size w (w.alloc o) from fun o => (Below.refl _ _).alloc (Nat.le_refl _) _)
  have HCALL := Lib.hid (node_any h c (w.alloc (chgBox c)) (H.keep (HBa.out _)) hn)
  obtain ⟨e0, he0⟩ : ∃ e0, nodeE (ndAt h) c = e0 := ⟨_, rfl⟩
  have HE := Lib.hid he0
  obtain ⟨r1, r2, r3, r4⟩ := refuse_rest (len := h.X.length) (show baseE (ndAt h) c = e0 from by unfold baseE; rw [if_neg (by omega), if_pos (by omega)]; exact he0)
  have R1 := Lib.hid r1
  have R2 := Lib.hid r2
  have R3 := Lib.hid r3
  have R4 := Lib.hid r4
  have HCV := Lib.hid (show chgV c = .agg #[.int .i64 c.kind, .int .i64 c.at_, .int .i64 c.to, .string c.name, .string c.text, .int .i64 c.a, .int .i64 c.b, .int .i64 c.n] from rfl)
  have t0 : (c.kind == 0) = false := kind_no 0 (by omega)
  have t1 : (c.kind == 1) = false := kind_no 1 (by omega)
  have t2 : (c.kind == 2) = false := kind_no 2 (by omega)
  have t3 : (c.kind == 3) = false := kind_no 3 (by omega)
  have t4 : (c.kind == 4) = true := kind_yes 4 (by omega)
  have t5 : (c.kind == 5) = false := kind_no 5 (by omega)
  have t6 : (c.kind == 6) = false := kind_no 6 (by omega)
  have t7 : (c.kind == 7) = false := kind_no 7 (by omega)
  have t8 : (c.kind == 8) = false := kind_no 8 (by omega)
  have hmm : makesB c.kind = false := by unfold makesB; rw [t0, t1, t3, t7]; rfl
  have HM := Lib.hid hmm
  have hm : (c.kind == 0 || c.kind == 1 || c.kind == 3 || c.kind == 7) = false := hmm
  clear hmm r1 r2 r3 r4 he0 hk hv H hE
  rw [HCV.out]
  by_cases h0 : e0 = 0
  · have b0 : (e0 == 0) = true := by simp [h0]
    have H0 := Lib.hid h0
    clear h0
    go_enter Tryz.func37, Tryz.ntmps37
    go_wp2_with (first
      | (go_at_call 61; rw [← HCV.out]; refine HCALL.out.mono ?_; rintro e w2 ⟨rfl, hb2⟩; rw [HE.out]; have HB2 := Lib.hid (below_two (HBa.out _) hb2); obtain ⟨q0, q1, q2, q3, q4, q5, q6, q7⟩ := chg_cells (box_keep hb2); have z0 := HP.out _ HB2.out; clear hb2)
      | (go_at_call 62; refine (makes_any c.kind _).mono ?_; rintro e w3 ⟨rfl, hw⟩; subst hw; rw [hm]))
    go_ret
    exact ⟨ret_int (R2.out H0.out HM.out).symm, HB2.out⟩
  · have b0 : (e0 == 0) = false := by simp [h0]
    have H0 := Lib.hid h0
    clear h0
    go_enter Tryz.func37, Tryz.ntmps37
    go_wp2_with (first
      | (go_at_call 61; rw [← HCV.out]; refine HCALL.out.mono ?_; rintro e w2 ⟨rfl, hb2⟩; rw [HE.out]; have HB2 := Lib.hid (below_two (HBa.out _) hb2); obtain ⟨q0, q1, q2, q3, q4, q5, q6, q7⟩ := chg_cells (box_keep hb2); have z0 := HP.out _ HB2.out; clear hb2)
      | (go_at_call 62; refine (makes_any c.kind _).mono ?_; rintro e w3 ⟨rfl, hw⟩; subst hw; rw [hm]))
    go_ret
    exact ⟨ret_int (R1.out H0.out).symm, HB2.out⟩
theorem refuse_5 (h : Fsh) (c : Chg) (w : World) (H : Fs h w) (hn : 0 < h.X.length) (hE : ∀ x ∈ h.X, x.1.ents.length ≤ 1000000) (hk : c.kind = 5) :
    Calls Tryz.prog 37 #[.pointer (some ⟨h.p, 0, none⟩), chgV c] w fun e w' => e = .returned (.int .i64 (refuseE (ndAt h) h.X.length c)) ∧ Below w.heap.size w w' := by
  obtain ⟨g, cap, hv, _, _⟩ := H.slice hn
  have HP := Lib.hid (show ∀ W, Below w.heap.size w W → W.cell? ⟨h.p, 0, none⟩ = some (.slice (some ⟨g, 0, none⟩) h.X.length cap) from fun W hb => by rw [← hv]; exact (H.keep hb).cell0)
  have HBa := Lib.hid (show ∀ o, Below w.heap.size w (w.alloc o) from fun o => (Below.refl _ _).alloc (Nat.le_refl _) _)
  have HCALL := Lib.hid (node_any h c (w.alloc (chgBox c)) (H.keep (HBa.out _)) hn)
  obtain ⟨e0, he0⟩ : ∃ e0, nodeE (ndAt h) c = e0 := ⟨_, rfl⟩
  have HE := Lib.hid he0
  obtain ⟨r1, r2, r3, r4⟩ := refuse_rest (len := h.X.length) (show baseE (ndAt h) c = e0 from by unfold baseE; rw [if_neg (by omega), if_pos (by omega)]; exact he0)
  have R1 := Lib.hid r1
  have R2 := Lib.hid r2
  have R3 := Lib.hid r3
  have R4 := Lib.hid r4
  have HCV := Lib.hid (show chgV c = .agg #[.int .i64 c.kind, .int .i64 c.at_, .int .i64 c.to, .string c.name, .string c.text, .int .i64 c.a, .int .i64 c.b, .int .i64 c.n] from rfl)
  have t0 : (c.kind == 0) = false := kind_no 0 (by omega)
  have t1 : (c.kind == 1) = false := kind_no 1 (by omega)
  have t2 : (c.kind == 2) = false := kind_no 2 (by omega)
  have t3 : (c.kind == 3) = false := kind_no 3 (by omega)
  have t4 : (c.kind == 4) = false := kind_no 4 (by omega)
  have t5 : (c.kind == 5) = true := kind_yes 5 (by omega)
  have t6 : (c.kind == 6) = false := kind_no 6 (by omega)
  have t7 : (c.kind == 7) = false := kind_no 7 (by omega)
  have t8 : (c.kind == 8) = false := kind_no 8 (by omega)
  have hmm : makesB c.kind = false := by unfold makesB; rw [t0, t1, t3, t7]; rfl
  have HM := Lib.hid hmm
  have hm : (c.kind == 0 || c.kind == 1 || c.kind == 3 || c.kind == 7) = false := hmm
  clear hmm r1 r2 r3 r4 he0 hk hv H hE
  rw [HCV.out]
  by_cases h0 : e0 = 0
  · have b0 : (e0 == 0) = true := by simp [h0]
    have H0 := Lib.hid h0
    clear h0
    go_enter Tryz.func37, Tryz.ntmps37
    go_wp2_with (first
      | (go_at_call 61; rw [← HCV.out]; refine HCALL.out.mono ?_; rintro e w2 ⟨rfl, hb2⟩; rw [HE.out]; have HB2 := Lib.hid (below_two (HBa.out _) hb2); obtain ⟨q0, q1, q2, q3, q4, q5, q6, q7⟩ := chg_cells (box_keep hb2); have z0 := HP.out _ HB2.out; clear hb2)
      | (go_at_call 62; refine (makes_any c.kind _).mono ?_; rintro e w3 ⟨rfl, hw⟩; subst hw; rw [hm]))
    go_ret
    exact ⟨ret_int (R2.out H0.out HM.out).symm, HB2.out⟩
  · have b0 : (e0 == 0) = false := by simp [h0]
    have H0 := Lib.hid h0
    clear h0
    go_enter Tryz.func37, Tryz.ntmps37
    go_wp2_with (first
      | (go_at_call 61; rw [← HCV.out]; refine HCALL.out.mono ?_; rintro e w2 ⟨rfl, hb2⟩; rw [HE.out]; have HB2 := Lib.hid (below_two (HBa.out _) hb2); obtain ⟨q0, q1, q2, q3, q4, q5, q6, q7⟩ := chg_cells (box_keep hb2); have z0 := HP.out _ HB2.out; clear hb2)
      | (go_at_call 62; refine (makes_any c.kind _).mono ?_; rintro e w3 ⟨rfl, hw⟩; subst hw; rw [hm]))
    go_ret
    exact ⟨ret_int (R1.out H0.out).symm, HB2.out⟩
theorem refuse_6 (h : Fsh) (c : Chg) (w : World) (H : Fs h w) (hn : 0 < h.X.length) (hE : ∀ x ∈ h.X, x.1.ents.length ≤ 1000000) (hk : c.kind = 6) :
    Calls Tryz.prog 37 #[.pointer (some ⟨h.p, 0, none⟩), chgV c] w fun e w' => e = .returned (.int .i64 (refuseE (ndAt h) h.X.length c)) ∧ Below w.heap.size w w' := by
  obtain ⟨g, cap, hv, _, _⟩ := H.slice hn
  have HP := Lib.hid (show ∀ W, Below w.heap.size w W → W.cell? ⟨h.p, 0, none⟩ = some (.slice (some ⟨g, 0, none⟩) h.X.length cap) from fun W hb => by rw [← hv]; exact (H.keep hb).cell0)
  have HBa := Lib.hid (show ∀ o, Below w.heap.size w (w.alloc o) from fun o => (Below.refl _ _).alloc (Nat.le_refl _) _)
  have HCALL := Lib.hid (node_any h c (w.alloc (chgBox c)) (H.keep (HBa.out _)) hn)
  obtain ⟨e0, he0⟩ : ∃ e0, nodeE (ndAt h) c = e0 := ⟨_, rfl⟩
  have HE := Lib.hid he0
  obtain ⟨r1, r2, r3, r4⟩ := refuse_rest (len := h.X.length) (show baseE (ndAt h) c = e0 from by unfold baseE; rw [if_neg (by omega), if_pos (by omega)]; exact he0)
  have R1 := Lib.hid r1
  have R2 := Lib.hid r2
  have R3 := Lib.hid r3
  have R4 := Lib.hid r4
  have HCV := Lib.hid (show chgV c = .agg #[.int .i64 c.kind, .int .i64 c.at_, .int .i64 c.to, .string c.name, .string c.text, .int .i64 c.a, .int .i64 c.b, .int .i64 c.n] from rfl)
  have t0 : (c.kind == 0) = false := kind_no 0 (by omega)
  have t1 : (c.kind == 1) = false := kind_no 1 (by omega)
  have t2 : (c.kind == 2) = false := kind_no 2 (by omega)
  have t3 : (c.kind == 3) = false := kind_no 3 (by omega)
  have t4 : (c.kind == 4) = false := kind_no 4 (by omega)
  have t5 : (c.kind == 5) = false := kind_no 5 (by omega)
  have t6 : (c.kind == 6) = true := kind_yes 6 (by omega)
  have t7 : (c.kind == 7) = false := kind_no 7 (by omega)
  have t8 : (c.kind == 8) = false := kind_no 8 (by omega)
  have hmm : makesB c.kind = false := by unfold makesB; rw [t0, t1, t3, t7]; rfl
  have HM := Lib.hid hmm
  have hm : (c.kind == 0 || c.kind == 1 || c.kind == 3 || c.kind == 7) = false := hmm
  clear hmm r1 r2 r3 r4 he0 hk hv H hE
  rw [HCV.out]
  by_cases h0 : e0 = 0
  · have b0 : (e0 == 0) = true := by simp [h0]
    have H0 := Lib.hid h0
    clear h0
    go_enter Tryz.func37, Tryz.ntmps37
    go_wp2_with (first
      | (go_at_call 61; rw [← HCV.out]; refine HCALL.out.mono ?_; rintro e w2 ⟨rfl, hb2⟩; rw [HE.out]; have HB2 := Lib.hid (below_two (HBa.out _) hb2); obtain ⟨q0, q1, q2, q3, q4, q5, q6, q7⟩ := chg_cells (box_keep hb2); have z0 := HP.out _ HB2.out; clear hb2)
      | (go_at_call 62; refine (makes_any c.kind _).mono ?_; rintro e w3 ⟨rfl, hw⟩; subst hw; rw [hm]))
    go_ret
    exact ⟨ret_int (R2.out H0.out HM.out).symm, HB2.out⟩
  · have b0 : (e0 == 0) = false := by simp [h0]
    have H0 := Lib.hid h0
    clear h0
    go_enter Tryz.func37, Tryz.ntmps37
    go_wp2_with (first
      | (go_at_call 61; rw [← HCV.out]; refine HCALL.out.mono ?_; rintro e w2 ⟨rfl, hb2⟩; rw [HE.out]; have HB2 := Lib.hid (below_two (HBa.out _) hb2); obtain ⟨q0, q1, q2, q3, q4, q5, q6, q7⟩ := chg_cells (box_keep hb2); have z0 := HP.out _ HB2.out; clear hb2)
      | (go_at_call 62; refine (makes_any c.kind _).mono ?_; rintro e w3 ⟨rfl, hw⟩; subst hw; rw [hm]))
    go_ret
    exact ⟨ret_int (R1.out H0.out).symm, HB2.out⟩
theorem refuse_7 (h : Fsh) (c : Chg) (w : World) (H : Fs h w) (hn : 0 < h.X.length) (hE : ∀ x ∈ h.X, x.1.ents.length ≤ 1000000) (hk : c.kind = 7) :
    Calls Tryz.prog 37 #[.pointer (some ⟨h.p, 0, none⟩), chgV c] w fun e w' => e = .returned (.int .i64 (refuseE (ndAt h) h.X.length c)) ∧ Below w.heap.size w w' := by
  obtain ⟨g, cap, hv, _, _⟩ := H.slice hn
  have HP := Lib.hid (show ∀ W, Below w.heap.size w W → W.cell? ⟨h.p, 0, none⟩ = some (.slice (some ⟨g, 0, none⟩) h.X.length cap) from fun W hb => by rw [← hv]; exact (H.keep hb).cell0)
  have HBa := Lib.hid (show ∀ o, Below w.heap.size w (w.alloc o) from fun o => (Below.refl _ _).alloc (Nat.le_refl _) _)
  have HCALL := Lib.hid (node_any h c (w.alloc (chgBox c)) (H.keep (HBa.out _)) hn)
  obtain ⟨e0, he0⟩ : ∃ e0, nodeE (ndAt h) c = e0 := ⟨_, rfl⟩
  have HE := Lib.hid he0
  obtain ⟨r1, r2, r3, r4⟩ := refuse_rest (len := h.X.length) (show baseE (ndAt h) c = e0 from by unfold baseE; rw [if_neg (by omega), if_pos (by omega)]; exact he0)
  have R1 := Lib.hid r1
  have R2 := Lib.hid r2
  have R3 := Lib.hid r3
  have R4 := Lib.hid r4
  have HCV := Lib.hid (show chgV c = .agg #[.int .i64 c.kind, .int .i64 c.at_, .int .i64 c.to, .string c.name, .string c.text, .int .i64 c.a, .int .i64 c.b, .int .i64 c.n] from rfl)
  have t0 : (c.kind == 0) = false := kind_no 0 (by omega)
  have t1 : (c.kind == 1) = false := kind_no 1 (by omega)
  have t2 : (c.kind == 2) = false := kind_no 2 (by omega)
  have t3 : (c.kind == 3) = false := kind_no 3 (by omega)
  have t4 : (c.kind == 4) = false := kind_no 4 (by omega)
  have t5 : (c.kind == 5) = false := kind_no 5 (by omega)
  have t6 : (c.kind == 6) = false := kind_no 6 (by omega)
  have t7 : (c.kind == 7) = true := kind_yes 7 (by omega)
  have t8 : (c.kind == 8) = false := kind_no 8 (by omega)
  have hmm : makesB c.kind = true := by unfold makesB; rw [t0, t1, t3, t7]; rfl
  have HM := Lib.hid hmm
  have hm : (c.kind == 0 || c.kind == 1 || c.kind == 3 || c.kind == 7) = true := hmm
  clear hmm r1 r2 r3 r4 he0 hk hv H hE
  rw [HCV.out]
  by_cases h0 : e0 = 0
  · have b0 : (e0 == 0) = true := by simp [h0]
    have H0 := Lib.hid h0
    clear h0
    by_cases hl : 300 ≤ h.X.length
    · have dl : decide ((300 : Int) ≤ (h.X.length : Int)) = true := decide_eq_true (by omega)
      go_enter Tryz.func37, Tryz.ntmps37
      go_wp2_with (first
        | (go_at_call 61; rw [← HCV.out]; refine HCALL.out.mono ?_; rintro e w2 ⟨rfl, hb2⟩; rw [HE.out]; have HB2 := Lib.hid (below_two (HBa.out _) hb2); obtain ⟨q0, q1, q2, q3, q4, q5, q6, q7⟩ := chg_cells (box_keep hb2); have z0 := HP.out _ HB2.out; clear hb2)
        | (go_at_call 62; refine (makes_any c.kind _).mono ?_; rintro e w3 ⟨rfl, hw⟩; subst hw; rw [hm]))
      go_ret
      exact ⟨ret_int (R3.out H0.out HM.out hl).symm, HB2.out⟩
    · have dl : decide ((300 : Int) ≤ (h.X.length : Int)) = false := decide_eq_false (by omega)
      go_enter Tryz.func37, Tryz.ntmps37
      go_wp2_with (first
        | (go_at_call 61; rw [← HCV.out]; refine HCALL.out.mono ?_; rintro e w2 ⟨rfl, hb2⟩; rw [HE.out]; have HB2 := Lib.hid (below_two (HBa.out _) hb2); obtain ⟨q0, q1, q2, q3, q4, q5, q6, q7⟩ := chg_cells (box_keep hb2); have z0 := HP.out _ HB2.out; clear hb2)
        | (go_at_call 62; refine (makes_any c.kind _).mono ?_; rintro e w3 ⟨rfl, hw⟩; subst hw; rw [hm]))
      go_ret
      exact ⟨ret_int (R4.out H0.out HM.out hl).symm, HB2.out⟩
  · have b0 : (e0 == 0) = false := by simp [h0]
    have H0 := Lib.hid h0
    clear h0
    go_enter Tryz.func37, Tryz.ntmps37
    go_wp2_with (first
      | (go_at_call 61; rw [← HCV.out]; refine HCALL.out.mono ?_; rintro e w2 ⟨rfl, hb2⟩; rw [HE.out]; have HB2 := Lib.hid (below_two (HBa.out _) hb2); obtain ⟨q0, q1, q2, q3, q4, q5, q6, q7⟩ := chg_cells (box_keep hb2); have z0 := HP.out _ HB2.out; clear hb2)
      | (go_at_call 62; refine (makes_any c.kind _).mono ?_; rintro e w3 ⟨rfl, hw⟩; subst hw; rw [hm]))
    go_ret
    exact ⟨ret_int (R1.out H0.out).symm, HB2.out⟩
theorem refuse_8 (h : Fsh) (c : Chg) (w : World) (H : Fs h w) (hn : 0 < h.X.length) (hE : ∀ x ∈ h.X, x.1.ents.length ≤ 1000000) (hk : c.kind = 8) :
    Calls Tryz.prog 37 #[.pointer (some ⟨h.p, 0, none⟩), chgV c] w fun e w' => e = .returned (.int .i64 (refuseE (ndAt h) h.X.length c)) ∧ Below w.heap.size w w' := by
  obtain ⟨g, cap, hv, _, _⟩ := H.slice hn
  have HP := Lib.hid (show ∀ W, Below w.heap.size w W → W.cell? ⟨h.p, 0, none⟩ = some (.slice (some ⟨g, 0, none⟩) h.X.length cap) from fun W hb => by rw [← hv]; exact (H.keep hb).cell0)
  have HBa := Lib.hid (show ∀ o, Below w.heap.size w (w.alloc o) from fun o => (Below.refl _ _).alloc (Nat.le_refl _) _)
  have HCALL := Lib.hid (node_any h c (w.alloc (chgBox c)) (H.keep (HBa.out _)) hn)
  obtain ⟨e0, he0⟩ : ∃ e0, nodeE (ndAt h) c = e0 := ⟨_, rfl⟩
  have HE := Lib.hid he0
  obtain ⟨r1, r2, r3, r4⟩ := refuse_rest (len := h.X.length) (show baseE (ndAt h) c = e0 from by unfold baseE; rw [if_neg (by omega), if_pos (by omega)]; exact he0)
  have R1 := Lib.hid r1
  have R2 := Lib.hid r2
  have R3 := Lib.hid r3
  have R4 := Lib.hid r4
  have HCV := Lib.hid (show chgV c = .agg #[.int .i64 c.kind, .int .i64 c.at_, .int .i64 c.to, .string c.name, .string c.text, .int .i64 c.a, .int .i64 c.b, .int .i64 c.n] from rfl)
  have t0 : (c.kind == 0) = false := kind_no 0 (by omega)
  have t1 : (c.kind == 1) = false := kind_no 1 (by omega)
  have t2 : (c.kind == 2) = false := kind_no 2 (by omega)
  have t3 : (c.kind == 3) = false := kind_no 3 (by omega)
  have t4 : (c.kind == 4) = false := kind_no 4 (by omega)
  have t5 : (c.kind == 5) = false := kind_no 5 (by omega)
  have t6 : (c.kind == 6) = false := kind_no 6 (by omega)
  have t7 : (c.kind == 7) = false := kind_no 7 (by omega)
  have t8 : (c.kind == 8) = true := kind_yes 8 (by omega)
  have hmm : makesB c.kind = false := by unfold makesB; rw [t0, t1, t3, t7]; rfl
  have HM := Lib.hid hmm
  have hm : (c.kind == 0 || c.kind == 1 || c.kind == 3 || c.kind == 7) = false := hmm
  clear hmm r1 r2 r3 r4 he0 hk hv H hE
  rw [HCV.out]
  by_cases h0 : e0 = 0
  · have b0 : (e0 == 0) = true := by simp [h0]
    have H0 := Lib.hid h0
    clear h0
    go_enter Tryz.func37, Tryz.ntmps37
    go_wp2_with (first
      | (go_at_call 61; rw [← HCV.out]; refine HCALL.out.mono ?_; rintro e w2 ⟨rfl, hb2⟩; rw [HE.out]; have HB2 := Lib.hid (below_two (HBa.out _) hb2); obtain ⟨q0, q1, q2, q3, q4, q5, q6, q7⟩ := chg_cells (box_keep hb2); have z0 := HP.out _ HB2.out; clear hb2)
      | (go_at_call 62; refine (makes_any c.kind _).mono ?_; rintro e w3 ⟨rfl, hw⟩; subst hw; rw [hm]))
    go_ret
    exact ⟨ret_int (R2.out H0.out HM.out).symm, HB2.out⟩
  · have b0 : (e0 == 0) = false := by simp [h0]
    have H0 := Lib.hid h0
    clear h0
    go_enter Tryz.func37, Tryz.ntmps37
    go_wp2_with (first
      | (go_at_call 61; rw [← HCV.out]; refine HCALL.out.mono ?_; rintro e w2 ⟨rfl, hb2⟩; rw [HE.out]; have HB2 := Lib.hid (below_two (HBa.out _) hb2); obtain ⟨q0, q1, q2, q3, q4, q5, q6, q7⟩ := chg_cells (box_keep hb2); have z0 := HP.out _ HB2.out; clear hb2)
      | (go_at_call 62; refine (makes_any c.kind _).mono ?_; rintro e w3 ⟨rfl, hw⟩; subst hw; rw [hm]))
    go_ret
    exact ⟨ret_int (R1.out H0.out).symm, HB2.out⟩
theorem refuse_no (h : Fsh) (c : Chg) (w : World) (hk : c.kind < 0 ∨ 8 < c.kind) :
    Calls Tryz.prog 37 #[.pointer (some ⟨h.p, 0, none⟩), chgV c] w fun e w' => e = .returned (.int .i64 (refuseE (ndAt h) h.X.length c)) ∧ Below w.heap.size w w' := by
  have HR := Lib.hid (show refuseE (ndAt h) h.X.length c = 1 from by
    unfold refuseE baseE
    rw [if_neg (show ¬ (0 ≤ c.kind ∧ c.kind ≤ 3) from by omega), if_neg (show ¬ (4 ≤ c.kind ∧ c.kind ≤ 8) from by omega), if_neg (fun e => by cases e.1)])
  have t0 : (c.kind == 0) = false := kind_no 0 (by omega)
  have t1 : (c.kind == 1) = false := kind_no 1 (by omega)
  have t2 : (c.kind == 2) = false := kind_no 2 (by omega)
  have t3 : (c.kind == 3) = false := kind_no 3 (by omega)
  have t4 : (c.kind == 4) = false := kind_no 4 (by omega)
  have t5 : (c.kind == 5) = false := kind_no 5 (by omega)
  have t6 : (c.kind == 6) = false := kind_no 6 (by omega)
  have t7 : (c.kind == 7) = false := kind_no 7 (by omega)
  have t8 : (c.kind == 8) = false := kind_no 8 (by omega)
  have HBa := Lib.hid (show ∀ o, Below w.heap.size w (w.alloc o) from fun o => (Below.refl _ _).alloc (Nat.le_refl _) _)
  clear hk
  unfold chgV
  go_enter Tryz.func37, Tryz.ntmps37
  go_wp2
  go_ret
  exact ⟨ret_int HR.out.symm, HBa.out _⟩
theorem refuse_any (h : Fsh) (c : Chg) (w : World) (H : Fs h w) (hn : 0 < h.X.length) (hE : ∀ x ∈ h.X, x.1.ents.length ≤ 1000000) :
    Calls Tryz.prog 37 #[.pointer (some ⟨h.p, 0, none⟩), chgV c] w fun e w' => e = .returned (.int .i64 (refuseE (ndAt h) h.X.length c)) ∧ Below w.heap.size w w' := by
  rcases (show c.kind = 0 ∨ c.kind = 1 ∨ c.kind = 2 ∨ c.kind = 3 ∨ c.kind = 4 ∨ c.kind = 5 ∨ c.kind = 6 ∨ c.kind = 7 ∨ c.kind = 8 ∨ (c.kind < 0 ∨ 8 < c.kind) from by omega) with q | q | q | q | q | q | q | q | q | q
  · exact refuse_0 h c w H hn hE q
  · exact refuse_1 h c w H hn hE q
  · exact refuse_2 h c w H hn hE q
  · exact refuse_3 h c w H hn hE q
  · exact refuse_4 h c w H hn hE q
  · exact refuse_5 h c w H hn hE q
  · exact refuse_6 h c w H hn hE q
  · exact refuse_7 h c w H hn hE q
  · exact refuse_8 h c w H hn hE q
  · exact refuse_no h c w q
end Go.Proofs.YtfhagjnlliafiaaGreatDoor.V
namespace Go.Proofs.YtfhagjnlliafiaaGreatDoor.V
open Go.RowKit
def devL : List Nd → Nat → List Int
  | [], _ => []
  | n :: r, k => (if n.ino = 1 then [(k : Int)] else []) ++ devL r (k + 1)
theorem devL_append : ∀ (a b : List Nd) (k : Nat), devL (a ++ b) k = devL a k ++ devL b (k + a.length)
  | [], b, k => by simp [devL]
  | x :: r, b, k => by rw [List.cons_append, devL, devL, devL_append r b, List.length_cons, List.append_assoc, show k + 1 + r.length = k + (r.length + 1) by omega]
theorem devL_len : ∀ (a : List Nd) (k : Nat), (devL a k).length ≤ a.length
  | [], k => by simp [devL]
  | x :: r, k => by have := devL_len r (k + 1); rw [devL, List.length_append, List.length_cons]; split <;> simp <;> omega
def devX (X : List (Nd × Value)) (k : Nat) : List Int := devL ((X.take k).map Prod.fst) 0
theorem devX_next {X : List (Nd × Value)} {k : Nat} {x : Nd × Value} (h : X[k]? = some x) : devX X (k + 1) = devX X k ++ if x.1.ino = 1 then [(k : Int)] else [] := by
  have hk := (List.getElem?_eq_some_iff.1 h).1
  unfold devX
  rw [List.take_add_one, h, List.map_append, devL_append]
  simp [devL, Nat.min_eq_left (Nat.le_of_lt hk)]
theorem infoInt : (Tryz.prog.info? 3).map (fun i => (i.zero, i.size, i.bytes)) = some (some (.int .i64 0), 1, 8) := by kernel_rfl
def ints (l : List Int) : List Value := l.map (Value.int .i64)
def DevRel (h : Fsh) (w : World) (v c : Value) (wr : World) : Prop :=
  ∃ k : Nat, k ≤ h.X.length ∧ c = .int .i64 (k : Int) ∧ Below w.heap.size w wr ∧ wr.ownsRow w.heap.size 3 1 v (devX h.X k).length (ints (devX h.X k))
theorem devices_any (h : Fsh) (w : World) (H : Fs h w) (hn : 0 < h.X.length) (hX : h.X.length ≤ 1000000) :
    Calls Tryz.prog 97 #[.pointer (some ⟨h.p, 0, none⟩)] w fun e w' => ∃ v, e = .returned v ∧ w'.ownsRow w.heap.size 3 1 v (devL h.M 0).length (ints (devL h.M 0)) ∧ Below w.heap.size w w' := by
  obtain ⟨g, cap, hv, _, _⟩ := H.slice hn
  have c0 := H.cell0
  rw [hv] at c0
  obtain ⟨i0, hi0, hz0, hz1, hz2⟩ := info_parts infoInt
  have HH := Lib.hid H
  clear hv H
  go_enter Tryz.func97, Tryz.ntmps97
  go_wp2
  go_loopw [3, 10] (DevRel h w) (fun _ c _ => h.X.length - (intOf c).toNat)
  case atStart => exact ⟨0, Nat.zero_le _, rfl, Below.refl _ _, World.ownsRow_nil _ _ _ _⟩
  case round =>
    obtain ⟨k, hk, rfl, hb, ho⟩ := hrel
    have hsz := hb.size
    have HB := Lib.hid hb
    have HO := Lib.hid ho
    have hlen : (devX h.X k).length ≤ 1000000 := by
      have := devL_len ((h.X.take k).map Prod.fst) 0
      unfold devX
      simp only [List.length_map, List.length_take] at this
      omega
    clear hb ho
    by_cases hlt : k < h.X.length
    · obtain ⟨x, hx⟩ : ∃ x, h.X[k]? = some x := ⟨_, List.getElem?_eq_getElem hlt⟩
      have hf := isFirst_any h k x wr (HH.out.keep HB.out) hx
      have HX := Lib.hid hx
      have HM := Lib.hid (show (devX h.X k).length + 1 ≤ maxLen from by unfold maxLen; omega)
      have HF := Lib.hid hf
      clear hx hf
      by_cases h1 : x.1.ino = 1
      · have b1 : (x.1.ino == 1) = true := by simp [h1]
        have H1 := Lib.hid h1
        clear h1
        go_wp2_with (first
          | (at_builtin; refine wpList_append_own _ rfl (.tmp 16) (.tmp 18) 33 rfl w.heap.size 3 i0 (.int .i64 0) 1 8 Tryz.underlying33 hi0 hz0 hz1 hz2 rfl (by decide) _ _ _ rfl (HO.out.alloc _) ⟨wr.heap.size, 0, none⟩ 1 1 [.int .i64 (k : Int)] rfl rfl (World.news_of_block (heap_alloc_new _ _)) (by intro u hu; simp at hu; subst hu; rfl) HM.out (by omega) (by simp; omega) ?_; intro v1 w1 hown1 hgrow hnil)
          | (refine HF.out.mono ?_; rintro e w2 ⟨rfl, hw⟩; subst hw; rw [b1]))
        have R : DevRel h w v1 (.int .i64 ((k : Int) + 1)) w1 := by
          refine ⟨k + 1, by omega, by simp, ((HB.out.alloc hsz _).grown hgrow (by simp; omega) (fun j hj => (HO.out.lt j hj).1)), ?_⟩
          rw [devX_next HX.out, if_pos H1.out, List.length_append]
          unfold ints
          rw [List.map_append]
          exact hown1
        have RR := Lib.hid R
        clear R hown1 hgrow hnil
        go_roundw
        case rel => exact RR.out
        case measure => simp [intOf]; omega
      · have b1 : (x.1.ino == 1) = false := by simp [h1]
        have H1 := Lib.hid h1
        clear h1
        go_wp2_with (refine HF.out.mono ?_; rintro e w2 ⟨rfl, hw⟩; subst hw; rw [b1])
        go_roundw
        case rel =>
          refine ⟨k + 1, by omega, by simp, HB.out, ?_⟩
          rw [devX_next HX.out, if_neg H1.out, List.append_nil]
          exact HO.out
        case measure => simp [intOf]; omega
    · go_wp2
      go_ret
      have hke : k = h.X.length := by omega
      have e : devX h.X k = devL h.M 0 := by rw [hke]; unfold devX Fsh.M; rw [List.take_length]
      exact ⟨_, rfl, by rw [← e]; exact HO.out, HB.out⟩
end Go.Proofs.YtfhagjnlliafiaaGreatDoor.V
namespace Go.Proofs.YtfhagjnlliafiaaGreatDoor.V
open Go.RowKit
def setOver (k : Int) (n : Nd) : Nd := { n with over := k }
def coveredM (M : List Nd) (i : Nat) (mode up : Int) : List Nd :=
  (M ++ [addedNd (dirNd (mode % 4096) up) (((devL M 0).length : Int) + 1) M]).modify i (setOver (M.length : Int))
theorem owns_form {w : World} {base : Nat} {e : TypeId} {size n : Nat} {v : Value} {xs : List Value} (h : w.ownsRow base e size v n xs) : ∃ ao cap, v = .slice ao n cap := by
  rcases h.2 with ⟨e, e2⟩ | ⟨g, cap, cur, e, _⟩
  · exact ⟨none, 0, by rw [e, e2]⟩
  · exact ⟨_, cap, e⟩
theorem cover_mid {h : Fsh} {w0 w w3 : World} {v' : Value} {n : Nd} {i : Nat} {x : Nd × Value} (hb : Below w0.heap.size w0 w) (H : Fs ⟨h.p, v', h.X ++ [(n, .slice none 0 0)]⟩ w3) (hG : Grew h ⟨h.p, v', h.X ++ [(n, .slice none 0 0)]⟩ w w3) (hx : h.X[i]? = some x) :
    ∃ g cap, w3.cell? ⟨h.p, 0, none⟩ = some (.slice (some ⟨g, 0, none⟩) (h.X.length + 1) cap) ∧ w3.cell? ⟨g, i * 17 + 15, none⟩ = some (.int .i64 x.1.over) ∧ w3.frozen? ⟨g, i * 17 + 15, none⟩ = false ∧
      ∃ h', h'.p = h.p ∧ h'.M = (h.M ++ [n]).modify i (setOver (h.X.length : Int)) ∧ Fs h' (w3.setCell ⟨g, i * 17 + 15, none⟩ (.int .i64 (h.X.length : Int))) ∧ Grew h h' w0 (w3.setCell ⟨g, i * 17 + 15, none⟩ (.int .i64 (h.X.length : Int))) := by
  have hi := (List.getElem?_eq_some_iff.1 hx).1
  obtain ⟨g, cap, hv, _, _⟩ := H.slice (by simp)
  have hx' : (h.X ++ [(n, Value.slice none 0 0)])[i]? = some x := by rw [List.getElem?_append_left hi]; exact hx
  have c0 := H.cell0
  rw [hv] at c0
  have hl : (h.X ++ [(n, Value.slice none 0 0)]).length = h.X.length + 1 := by simp
  refine ⟨g, cap, by rw [← hl]; exact c0, H.at_node hv hx' (k := 15) (by omega) rfl, H.frozen_node hv _, ?_⟩
  obtain ⟨r1, r2⟩ := H.set hv (n := x.1) (n' := setOver (h.X.length : Int) x.1) (ev := x.2) hx' (k := 15) (by omega) (u := .int .i64 (h.X.length : Int)) rfl rfl
  refine ⟨Fsh.mk h.p v' ((h.X ++ [(n, Value.slice none 0 0)]).set i (setOver (h.X.length : Int) x.1, x.2)), rfl, ?_, r1, (Grew.of_below hb).trans (hG.trans r2)⟩
  have := map_set (setOver (h.X.length : Int)) (ev := x.2) (ev' := x.2) hx'
  unfold Fsh.M
  rw [this, List.map_append]
  rfl
theorem cover_any (h : Fsh) (i : Nat) (x : Nd × Value) (m : Int) (w : World) (H : Fs h w) (hx : h.X[i]? = some x) (hX : h.X.length ≤ 1000000) :
    Calls Tryz.prog 67 #[.pointer (some ⟨h.p, 0, none⟩), .int .i64 (i : Int), .int .i64 m] w fun e w' => e = .returned (.int .i64 (h.X.length : Int)) ∧
      ∃ h', h'.p = h.p ∧ h'.M = coveredM h.M i m x.1.up ∧ Fs h' w' ∧ Grew h h' w w' := by
  have hil : i < h.X.length := (List.getElem?_eq_some_iff.1 hx).1
  obtain ⟨g, cap, hv, _, _⟩ := H.slice (by omega)
  have c0 := H.cell0
  rw [hv] at c0
  have c14 := H.at_node hv hx (k := 14) (by omega) rfl
  have HH := Lib.hid H
  have HX := Lib.hid hx
  have HK := Lib.hid (show ∀ W, Below w.heap.size w W → Fs h W ∧ W.cell? ⟨h.p, 0, none⟩ = some (.slice (some ⟨g, 0, none⟩) h.X.length cap) ∧ W.cell? ⟨g, i * 17 + 14, none⟩ = some (.int .i64 x.1.up) from fun W hb => by
    have HW := H.keep hb
    have d0 := HW.cell0
    rw [hv] at d0
    exact ⟨HW, d0, HW.at_node hv hx (k := 14) (by omega) rfl⟩)
  have hdl := devL_len h.M 0
  have hml : h.M.length = h.X.length := List.length_map ..
  rw [hml] at hdl
  obtain ⟨D, hD⟩ : ∃ D, (devL h.M 0).length = D := ⟨_, rfl⟩
  have HD := Lib.hid hD
  rw [hD] at hdl
  have hn0 : 0 < h.X.length := by omega
  have hwr : IntKind.i64.wrap ((D : Int) + 1) = (D : Int) + 1 := by rw [IntKind.wrap_i64]; omega
  have HB0 := Lib.hid (show Below w.heap.size w w.drew from (Below.refl _ _).drew)
  have HM := Lib.hid hml
  clear H hx hv hD hml
  go_enter Tryz.func67, Tryz.ntmps67
  go_wp2
  go_region_law (first
    | (go_simp; go_at_call 97; refine (devices_any h _ (by first | exact (HK.out _ HB0.out).1 | exact (HK.out _ HBd.out).1) hn0 hX).mono ?_; rintro e w1 ⟨v1, rfl, ho1, hb1⟩; have HBe := Lib.hid (show Below w.heap.size w w1 from by first | exact below_two HB0.out hb1 | exact below_two HBd.out hb1); have q1 := (HK.out _ HBe.out).2.1; have q2 := (HK.out _ HBe.out).2.2; obtain ⟨ao1, cap1, rfl⟩ := owns_form ho1; rw [HD.out]; clear ho1 hb1)
    | (go_simp; go_at_call 35; refine (directory_any m x.1.up _).mono ?_; rintro e w1 ⟨rfl, hb1⟩; have HBd := Lib.hid (show Below w.heap.size w w1 from by first | exact below_two HB0.out hb1 | exact below_two HBe.out hb1); have q1 := (HK.out _ HBd.out).2.1; have q2 := (HK.out _ HBd.out).2.2; clear hb1)
    | (go_simp; go_at_call 34; refine (add_any h (dirNd (m % 4096) x.1.up) ((D : Int) + 1) _ (by first | exact (HK.out _ HBe.out).1 | exact (HK.out _ HBd.out).1) rfl hX).mono ?_; rintro e w3 ⟨rfl, v', H3, G3⟩; obtain ⟨g3, cap3, p0, p15, f15, hR⟩ := cover_mid (w0 := w) (by first | exact HBd.out | exact HBe.out) H3 G3 HX.out; have R := Lib.hid hR; clear hR H3 G3))
  all_goals go_wp2
  all_goals go_ret
  all_goals (obtain ⟨h', r1, r2, r3, r4⟩ := R.out; exact ⟨rfl, h', r1, by rw [r2]; unfold coveredM; rw [HD.out, HM.out], r3, r4⟩)
end Go.Proofs.YtfhagjnlliafiaaGreatDoor.V
namespace Go.Proofs.YtfhagjnlliafiaaGreatDoor.V
open Go.RowKit
def maxI (a b : Int) : Int := if a < b then b else a
def setNd (c : Chg) (n : Nd) : Nd :=
  if c.kind = 4 then { n with mode := c.a % 4096 }
  else if c.kind = 5 then { n with uid := maxI c.a 0, gid := maxI c.b 0 }
  else if c.kind = 6 then (if c.a = 0 then { n with t0 := c.n } else if c.a = 1 then { n with t1 := c.n } else { n with t2 := c.n })
  else { n with dead := true }
theorem setNd_ents (c : Chg) (n : Nd) : (setNd c n).ents = n.ents := by
  unfold setNd
  repeat' split
  all_goals rfl
theorem set_end {h h1 : Fsh} {w w2 : World} (H : Fs h1 w2) (hG : Grew h h1 w w2) (hp : h1.p = h.p) (hvv : h1.v = h.v) {g cap : Nat} (hv : h1.v = .slice (some ⟨g, 0, none⟩) h1.X.length cap) {i : Nat} {n0 n n' : Nd} {ev : Value} (hx0 : h.X[i]? = some (n0, ev)) (hX : h1.X = h.X.set i (n, ev)) {k : Nat} (hk : k < 17) {u : Value}
    (hs : n'.cells ev = (n.cells ev).set k u) (he : n'.ents = n.ents) :
    Fs ⟨h.p, h.v, h.X.set i (n', ev)⟩ (w2.setCell ⟨g, i * 17 + k, none⟩ u) ∧ Grew h ⟨h.p, h.v, h.X.set i (n', ev)⟩ w (w2.setCell ⟨g, i * 17 + k, none⟩ u) := by
  have hi := (List.getElem?_eq_some_iff.1 hx0).1
  have hx : h1.X[i]? = some (n, ev) := by rw [hX, List.getElem?_set, if_pos rfl, if_pos hi]
  obtain ⟨r1, r2⟩ := H.set hv hx hk hs he
  have e : (⟨h1.p, h1.v, h1.X.set i (n', ev)⟩ : Fsh) = ⟨h.p, h.v, h.X.set i (n', ev)⟩ := by rw [hp, hvv, hX, List.set_set]
  rw [e] at r1 r2
  exact ⟨r1, hG.trans r2⟩
def SetTo (c : Chg) (h : Fsh) (i : Nat) (n : Nd) (ev : Value) (w w' : World) : Prop := Fs ⟨h.p, h.v, h.X.set i (setNd c n, ev)⟩ w' ∧ Grew h ⟨h.p, h.v, h.X.set i (setNd c n, ev)⟩ w w'
theorem SetTo.below {c : Chg} {h : Fsh} {i : Nat} {n : Nd} {ev : Value} {w w1 w2 : World} (H : SetTo c h i n ev w w1) (hb : Below w1.heap.size w1 w2) : SetTo c h i n ev w w2 := ⟨H.1.keep hb, H.2.trans (Grew.of_below hb)⟩
theorem setTo_one {c : Chg} {h : Fsh} {w : World} (H : Fs h w) {g cap : Nat} (hv : h.v = .slice (some ⟨g, 0, none⟩) h.X.length cap) {i : Nat} {n : Nd} {ev : Value} (hx : h.X[i]? = some (n, ev)) {k : Nat} (hk : k < 17) {u : Value} (hs : (setNd c n).cells ev = (n.cells ev).set k u) (o : Obj) :
    SetTo c h i n ev w ((w.setCell ⟨g, i * 17 + k, none⟩ u).alloc o) :=
  SetTo.below (H.set hv hx hk hs (setNd_ents c n)) ((Below.refl _ _).alloc (Nat.le_refl _) _)
theorem setTo_two {c : Chg} {h : Fsh} {w : World} (H : Fs h w) {g cap : Nat} (hv : h.v = .slice (some ⟨g, 0, none⟩) h.X.length cap) {i : Nat} {n n1 : Nd} {ev : Value} (hx : h.X[i]? = some (n, ev)) {k l : Nat} (hk : k < 17) (hl : l < 17) {u u2 : Value} (hs1 : n1.cells ev = (n.cells ev).set k u) (he : n1.ents = n.ents) (hs : (setNd c n).cells ev = (n1.cells ev).set l u2) :
    SetTo c h i n ev w ((w.setCell ⟨g, i * 17 + k, none⟩ u).setCell ⟨g, i * 17 + l, none⟩ u2) := by
  obtain ⟨r1, r2⟩ := H.set hv hx hk hs1 he
  exact set_end r1 r2 rfl rfl (by show h.v = _; rw [hv]; show _ = Value.slice _ (h.X.set i _).length _; rw [List.length_set]) hx rfl hl hs (by rw [setNd_ents, he])
theorem below_ad (w : World) (o : Obj) : Below w.heap.size w (w.alloc o).drew := ((Below.refl _ _).alloc (Nat.le_refl _) _).drew
theorem set_owner {c : Chg} {h : Fsh} {w : World} (H : Fs h w) {g cap : Nat} (hv : h.v = .slice (some ⟨g, 0, none⟩) h.X.length cap) {i : Nat} {n : Nd} {ev : Value} (hx : h.X[i]? = some (n, ev)) (hk : c.kind = 5) {a b : Int} (ha : maxI c.a 0 = a) (hb : maxI c.b 0 = b) (o : Obj) :
    SetTo c h i n ev w (((w.setCell ⟨g, i * 17 + 4, none⟩ (.int .i64 a)).setCell ⟨g, i * 17 + 5, none⟩ (.int .i64 b)).alloc o).drew := by
  have r := setTo_two (c := c) H hv hx (n1 := { n with uid := a }) (k := 4) (l := 5) (by omega) (by omega) (u := .int .i64 a) (u2 := .int .i64 b) rfl rfl (by unfold setNd; rw [if_neg (by omega), if_pos hk, ha, hb]; rfl)
  exact r.below (below_ad _ _)
theorem set_time {c : Chg} {h : Fsh} {w : World} (H : Fs h w) {g cap : Nat} (hv : h.v = .slice (some ⟨g, 0, none⟩) h.X.length cap) {i : Nat} {n : Nd} {ev : Value} (hx : h.X[i]? = some (n, ev)) {k : Nat} (hk : k < 17) {u : Value} (hs : (setNd c n).cells ev = (n.cells ev).set k u) (o : Obj) :
    SetTo c h i n ev w ((w.setCell ⟨g, i * 17 + k, none⟩ u).alloc o).drew :=
  SetTo.below (H.set hv hx hk hs (setNd_ents c n)) (below_ad _ _)
theorem set_any (h : Fsh) (g cap i : Nat) (n : Nd) (ev : Value) (c : Chg) (w : World) (H : Fs h w) (hv : h.v = .slice (some ⟨g, 0, none⟩) h.X.length cap) (hx : h.X[i]? = some (n, ev)) (hc : c.kind = 4 ∨ c.kind = 5 ∨ (c.kind = 6 ∧ 0 ≤ c.a ∧ c.a ≤ 2) ∨ c.kind = 8) :
    Calls Tryz.prog 68 #[.pointer (some ⟨g, i * 17, none⟩), chgV c] w fun e w' => e = .returned (.tuple #[]) ∧ SetTo c h i n ev w w' := by
  have hgl : g < w.heap.size := H.lt (.inr (.inl (by rw [hv]; rfl)))
  have fz := H.frozen_node hv
  have ca : ∀ k u, (nc (n, ev))[k]? = some u → w.cell? ⟨g, i * 17 + k, none⟩ = some u := fun k u hu => (H.at_node hv hx (show k < 17 from by have := (List.getElem?_eq_some_iff.1 hu).1; rwa [nc_len] at this) hu)
  have c3 := ca 3 _ rfl
  have c4 := ca 4 _ rfl
  have c5 := ca 5 _ rfl
  have c9 := ca 9 _ rfl
  have c10 := ca 10 _ rfl
  have c11 := ca 11 _ rfl
  have c13 := ca 13 _ rfl
  have f3 := fz (i * 17 + 3)
  have f4 := fz (i * 17 + 4)
  have f5 := fz (i * 17 + 5)
  have f9 := fz (i * 17 + 9)
  have f10 := fz (i * 17 + 10)
  have f11 := fz (i * 17 + 11)
  have f13 := fz (i * 17 + 13)
  have HH := Lib.hid H
  have HV := Lib.hid hv
  have HX := Lib.hid hx
  clear fz ca hv hx H
  unfold chgV
  rcases hc with hk | hk | ⟨hk, ha0, ha2⟩ | hk
  · clear c4 c5 c9 c10 c11 c13 f4 f5 f9 f10 f11 f13
    go_enter Tryz.func68, Tryz.ntmps68
    go_wp2
    go_end0
    exact ⟨rfl, setTo_one HH.out HV.out HX.out (k := 3) (by omega) (by unfold setNd; rw [if_pos hk, and_mode]; rfl) _⟩
  · clear c3 c9 c10 c11 c13 f3 f9 f10 f11 f13
    go_enter Tryz.func68, Tryz.ntmps68
    go_wp2
    go_region
    all_goals go_wp2
    all_goals go_end0
    all_goals exact ⟨rfl, set_owner HH.out HV.out HX.out hk (by unfold maxI; split <;> omega) (by unfold maxI; split <;> omega) _⟩
  · clear c3 c4 c5 c13 f3 f4 f5 f13
    have hk' : c.kind ≠ 4 := by omega
    have hk5 : c.kind ≠ 5 := by omega
    have hS := Lib.hid (show setNd c n = (if c.a = 0 then { n with t0 := c.n } else if c.a = 1 then { n with t1 := c.n } else { n with t2 := c.n }) from by unfold setNd; rw [if_neg hk', if_neg hk5, if_pos hk])
    clear hk' hk5
    have h3 : c.a = 0 ∨ c.a = 1 ∨ c.a = 2 := by omega
    rcases h3 with ha | ha | ha
    · clear ha0 ha2
      go_enter Tryz.func68, Tryz.ntmps68
      go_wp2
      go_region
      all_goals go_wp2
      all_goals go_end0
      all_goals exact ⟨rfl, set_time HH.out HV.out HX.out (k := 9) (by omega) (by rw [hS.out, if_pos ha]; rfl) _⟩
    · clear ha0 ha2
      go_enter Tryz.func68, Tryz.ntmps68
      go_wp2
      go_region
      all_goals go_wp2
      all_goals go_end0
      all_goals exact ⟨rfl, set_time HH.out HV.out HX.out (k := 10) (by omega) (by rw [hS.out, if_neg (by omega), if_pos ha]; rfl) _⟩
    · clear ha0 ha2
      go_enter Tryz.func68, Tryz.ntmps68
      go_wp2
      go_region
      all_goals go_wp2
      all_goals go_end0
      all_goals exact ⟨rfl, set_time HH.out HV.out HX.out (k := 11) (by omega) (by rw [hS.out, if_neg (by omega), if_neg (by omega)]; rfl) _⟩
  · clear c3 c4 c5 c9 c10 c11 f3 f4 f5 f9 f10 f11
    go_enter Tryz.func68, Tryz.ntmps68
    go_wp2
    go_end0
    exact ⟨rfl, setTo_one HH.out HV.out HX.out (k := 13) (by omega) (by unfold setNd; rw [if_neg (by omega), if_neg (by omega), if_neg (by omega)]; rfl) _⟩
end Go.Proofs.YtfhagjnlliafiaaGreatDoor.V
namespace Go.Proofs.YtfhagjnlliafiaaGreatDoor.V
open Go.RowKit
theorem box_grew {h h' : Fsh} {w2 w3 : World} {k : Nat} {o : Obj} (hb : w2.heap[k]? = some o) (G : Grew h h' w2 w3) (hf : ¬ h.foot k) : w3.heap[k]? = some o := (G.kept k (heap_lt hb) hf).trans hb
theorem carry_0 (h : Fsh) (i : Nat) (x : Nd × Value) (c : Chg) (w : World) (H : Fs h w) (hk : c.kind = 0) (hi : c.at_ = (i : Int)) (hx : h.X[i]? = some x) (hX : h.X.length ≤ 1000000) (hxl : 0 ≤ x.1.links ∧ x.1.links ≤ 1000000) (hxe : x.1.ents.length ≤ 1000000) :
    Calls Tryz.prog 38 #[.pointer (some ⟨h.p, 0, none⟩), chgV c] w fun e w' => e = .returned (.int .i64 (h.X.length : Int)) ∧
      ∃ h', h'.p = h.p ∧ h'.M = builtM h.M i c.name (dirNd (c.a % 4096) c.at_) x.1.dev ∧ Fs h' w' ∧ Grew h h' w w' := by
  have HBa := Lib.hid (show Below w.heap.size w (w.alloc (chgBox c)).drew from ((Below.refl _ _).alloc (Nat.le_refl _) _).drew)
  have HK := Lib.hid (show ∀ W, Below w.heap.size w W → Fs h W from fun W hb => H.keep hb)
  have HNF := Lib.hid (show ¬ h.foot w.heap.size from fun e => by have := H.lt e; omega)
  have HX0 := Lib.hid (show (w.alloc (chgBox c)).drew.heap[w.heap.size]? = some (chgBox c) from heap_alloc_new _ _)
  have HX := Lib.hid hx
  have t0 : (c.kind == 0) = true := kind_yes 0 (by omega)
  have t1 : (c.kind == 1) = false := kind_no 1 (by omega)
  have t2 : (c.kind == 2) = false := kind_no 2 (by omega)
  have t3 : (c.kind == 3) = false := kind_no 3 (by omega)
  have t7 : (c.kind == 7) = false := kind_no 7 (by omega)
  have HI := Lib.hid hi
  have HL := Lib.hid hxl
  have HE := Lib.hid hxe
  clear hk hi hx hxl hxe H
  unfold chgV
  go_enter Tryz.func38, Tryz.ntmps38
  go_wp2
  go_region_held3 (fun w' => w'.cell? ⟨w.heap.size, 0, none⟩ = some (.int .i64 c.kind) ∧ w'.cell? ⟨w.heap.size, 1, none⟩ = some (.int .i64 c.at_) ∧ w'.cell? ⟨w.heap.size, 2, none⟩ = some (.int .i64 c.to) ∧ w'.cell? ⟨w.heap.size, 3, none⟩ = some (.string c.name) ∧ w'.cell? ⟨w.heap.size, 4, none⟩ = some (.string c.text) ∧ w'.cell? ⟨w.heap.size, 5, none⟩ = some (.int .i64 c.a) ∧ w'.cell? ⟨w.heap.size, 6, none⟩ = some (.int .i64 c.b) ∧ w'.cell? ⟨w.heap.size, 7, none⟩ = some (.int .i64 c.n)) (first | exact hk3 | exact hk2 | exact chg_cells HX0.out) (first
    | (go_at_call 35; refine (directory_any c.a c.at_ _).mono ?_; rintro e w2 ⟨rfl, hb2⟩; have HB2 := Lib.hid (below_two HBa.out hb2); have HX2 := Lib.hid (box_keep2 HX0.out hb2); have hk2 := chg_cells HX2.out; clear hb2)
    | (go_at_call 63; refine (build_any h i x c (dirNd (c.a % 4096) c.at_) _ (HK.out _ HB2.out) HI.out HX.out rfl ⟨by show (0 : Int) ≤ 2; decide, by show (2 : Int) ≤ 1000000; decide⟩ hX HL.out HE.out).mono ?_; rintro e w3 ⟨rfl, h', hp', hm', H3, G3⟩; have hk3 := chg_cells (box_grew HX2.out G3 HNF.out); have R := Lib.hid (show ∃ h', h'.p = h.p ∧ h'.M = builtM h.M i c.name (dirNd (c.a % 4096) c.at_) x.1.dev ∧ Fs h' w3 ∧ Grew h h' w w3 from ⟨h', hp', hm', H3, (Grew.of_below HB2.out).trans G3⟩); clear hp' hm' H3 G3))
  all_goals go_wp2
  all_goals go_ret
  all_goals exact ⟨rfl, R.out⟩
theorem carry_1 (h : Fsh) (i : Nat) (x : Nd × Value) (c : Chg) (w : World) (H : Fs h w) (hk : c.kind = 1) (hi : c.at_ = (i : Int)) (hx : h.X[i]? = some x) (hX : h.X.length ≤ 1000000) (hxl : 0 ≤ x.1.links ∧ x.1.links ≤ 1000000) (hxe : x.1.ents.length ≤ 1000000) (hn0 : 0 ≤ c.n) (hn1 : c.n ≤ 9223372036854775807) :
    Calls Tryz.prog 38 #[.pointer (some ⟨h.p, 0, none⟩), chgV c] w fun e w' => e = .returned (.int .i64 (h.X.length : Int)) ∧
      ∃ h', h'.p = h.p ∧ h'.M = builtM h.M i c.name (fileNd (c.a % 4096) c.n (blkOf c.n)) x.1.dev ∧ Fs h' w' ∧ Grew h h' w w' := by
  have HBa := Lib.hid (show Below w.heap.size w (w.alloc (chgBox c)).drew from ((Below.refl _ _).alloc (Nat.le_refl _) _).drew)
  have HK := Lib.hid (show ∀ W, Below w.heap.size w W → Fs h W from fun W hb => H.keep hb)
  have HNF := Lib.hid (show ¬ h.foot w.heap.size from fun e => by have := H.lt e; omega)
  have HX0 := Lib.hid (show (w.alloc (chgBox c)).drew.heap[w.heap.size]? = some (chgBox c) from heap_alloc_new _ _)
  have HX := Lib.hid hx
  have t0 : (c.kind == 0) = false := kind_no 0 (by omega)
  have t1 : (c.kind == 1) = true := kind_yes 1 (by omega)
  have t2 : (c.kind == 2) = false := kind_no 2 (by omega)
  have t3 : (c.kind == 3) = false := kind_no 3 (by omega)
  have t7 : (c.kind == 7) = false := kind_no 7 (by omega)
  have HI := Lib.hid hi
  have HL := Lib.hid hxl
  have HE := Lib.hid hxe
  have HN0 := Lib.hid hn0
  have HN1 := Lib.hid hn1
  clear hn0 hn1
  clear hk hi hx hxl hxe H
  unfold chgV
  go_enter Tryz.func38, Tryz.ntmps38
  go_wp2
  go_region_held3 (fun w' => w'.cell? ⟨w.heap.size, 0, none⟩ = some (.int .i64 c.kind) ∧ w'.cell? ⟨w.heap.size, 1, none⟩ = some (.int .i64 c.at_) ∧ w'.cell? ⟨w.heap.size, 2, none⟩ = some (.int .i64 c.to) ∧ w'.cell? ⟨w.heap.size, 3, none⟩ = some (.string c.name) ∧ w'.cell? ⟨w.heap.size, 4, none⟩ = some (.string c.text) ∧ w'.cell? ⟨w.heap.size, 5, none⟩ = some (.int .i64 c.a) ∧ w'.cell? ⟨w.heap.size, 6, none⟩ = some (.int .i64 c.b) ∧ w'.cell? ⟨w.heap.size, 7, none⟩ = some (.int .i64 c.n)) (first | exact hk3 | exact hk2 | exact chg_cells HX0.out) (first
    | (go_at_call 64; refine (file_any c.a c.n _ HN0.out HN1.out).mono ?_; rintro e w2 ⟨rfl, hb2⟩; have HB2 := Lib.hid (below_two HBa.out hb2); have HX2 := Lib.hid (box_keep2 HX0.out hb2); have hk2 := chg_cells HX2.out; clear hb2)
    | (go_at_call 63; refine (build_any h i x c (fileNd (c.a % 4096) c.n (blkOf c.n)) _ (HK.out _ HB2.out) HI.out HX.out rfl ⟨by show (0 : Int) ≤ 0; decide, by show (0 : Int) ≤ 1000000; decide⟩ hX HL.out HE.out).mono ?_; rintro e w3 ⟨rfl, h', hp', hm', H3, G3⟩; have hk3 := chg_cells (box_grew HX2.out G3 HNF.out); have R := Lib.hid (show ∃ h', h'.p = h.p ∧ h'.M = builtM h.M i c.name (fileNd (c.a % 4096) c.n (blkOf c.n)) x.1.dev ∧ Fs h' w3 ∧ Grew h h' w w3 from ⟨h', hp', hm', H3, (Grew.of_below HB2.out).trans G3⟩); clear hp' hm' H3 G3))
  all_goals go_wp2
  all_goals go_ret
  all_goals exact ⟨rfl, R.out⟩
theorem carry_3 (h : Fsh) (i : Nat) (x : Nd × Value) (c : Chg) (w : World) (H : Fs h w) (hk : c.kind = 3) (hi : c.at_ = (i : Int)) (hx : h.X[i]? = some x) (hX : h.X.length ≤ 1000000) (hxl : 0 ≤ x.1.links ∧ x.1.links ≤ 1000000) (hxe : x.1.ents.length ≤ 1000000) :
    Calls Tryz.prog 38 #[.pointer (some ⟨h.p, 0, none⟩), chgV c] w fun e w' => e = .returned (.int .i64 (h.X.length : Int)) ∧
      ∃ h', h'.p = h.p ∧ h'.M = builtM h.M i c.name (linkNd c.text) x.1.dev ∧ Fs h' w' ∧ Grew h h' w w' := by
  have HBa := Lib.hid (show Below w.heap.size w (w.alloc (chgBox c)).drew from ((Below.refl _ _).alloc (Nat.le_refl _) _).drew)
  have HK := Lib.hid (show ∀ W, Below w.heap.size w W → Fs h W from fun W hb => H.keep hb)
  have HNF := Lib.hid (show ¬ h.foot w.heap.size from fun e => by have := H.lt e; omega)
  have HX0 := Lib.hid (show (w.alloc (chgBox c)).drew.heap[w.heap.size]? = some (chgBox c) from heap_alloc_new _ _)
  have HX := Lib.hid hx
  have t0 : (c.kind == 0) = false := kind_no 0 (by omega)
  have t1 : (c.kind == 1) = false := kind_no 1 (by omega)
  have t2 : (c.kind == 2) = false := kind_no 2 (by omega)
  have t3 : (c.kind == 3) = true := kind_yes 3 (by omega)
  have t7 : (c.kind == 7) = false := kind_no 7 (by omega)
  have HI := Lib.hid hi
  have HL := Lib.hid hxl
  have HE := Lib.hid hxe
  clear hk hi hx hxl hxe H
  unfold chgV
  go_enter Tryz.func38, Tryz.ntmps38
  go_wp2
  go_region_held3 (fun w' => w'.cell? ⟨w.heap.size, 0, none⟩ = some (.int .i64 c.kind) ∧ w'.cell? ⟨w.heap.size, 1, none⟩ = some (.int .i64 c.at_) ∧ w'.cell? ⟨w.heap.size, 2, none⟩ = some (.int .i64 c.to) ∧ w'.cell? ⟨w.heap.size, 3, none⟩ = some (.string c.name) ∧ w'.cell? ⟨w.heap.size, 4, none⟩ = some (.string c.text) ∧ w'.cell? ⟨w.heap.size, 5, none⟩ = some (.int .i64 c.a) ∧ w'.cell? ⟨w.heap.size, 6, none⟩ = some (.int .i64 c.b) ∧ w'.cell? ⟨w.heap.size, 7, none⟩ = some (.int .i64 c.n)) (first | exact hk3 | exact hk2 | exact chg_cells HX0.out) (first
    | (go_at_call 66; refine (link_any c.text _).mono ?_; rintro e w2 ⟨rfl, hb2⟩; have HB2 := Lib.hid (below_two HBa.out hb2); have HX2 := Lib.hid (box_keep2 HX0.out hb2); have hk2 := chg_cells HX2.out; clear hb2)
    | (go_at_call 63; refine (build_any h i x c (linkNd c.text) _ (HK.out _ HB2.out) HI.out HX.out rfl ⟨by show (0 : Int) ≤ 0; decide, by show (0 : Int) ≤ 1000000; decide⟩ hX HL.out HE.out).mono ?_; rintro e w3 ⟨rfl, h', hp', hm', H3, G3⟩; have hk3 := chg_cells (box_grew HX2.out G3 HNF.out); have R := Lib.hid (show ∃ h', h'.p = h.p ∧ h'.M = builtM h.M i c.name (linkNd c.text) x.1.dev ∧ Fs h' w3 ∧ Grew h h' w w3 from ⟨h', hp', hm', H3, (Grew.of_below HB2.out).trans G3⟩); clear hp' hm' H3 G3))
  all_goals go_wp2
  all_goals go_ret
  all_goals exact ⟨rfl, R.out⟩
theorem carry_2 (h : Fsh) (i j : Nat) (x y : Nd × Value) (c : Chg) (w : World) (H : Fs h w) (hk : c.kind = 2) (hi : c.at_ = (i : Int)) (hx : h.X[i]? = some x) (hj : c.to = (j : Int)) (hy : h.X[j]? = some y) (t : Nat) (ht : (if y.1.kind = 2 then i else j) = t) (hyl : 0 ≤ y.1.links ∧ y.1.links ≤ 1000000) (hxl : 0 ≤ x.1.links ∧ x.1.links ≤ 1000000) (hxe : x.1.ents.length ≤ 1000000) :
    Calls Tryz.prog 38 #[.pointer (some ⟨h.p, 0, none⟩), chgV c] w fun e w' => e = .returned (.int .i64 0) ∧
      ∃ h', h'.p = h.p ∧ h'.M = (h.M.modify i (addEnt c.name j)).modify t moreLinks ∧ Fs h' w' ∧ Grew h h' w w' := by
  have HBa := Lib.hid (show ∀ o, Below w.heap.size w (w.alloc o) from fun o => (Below.refl _ _).alloc (Nat.le_refl _) _)
  have HK := Lib.hid (show ∀ W, Below w.heap.size w W → Fs h W from fun W hb => H.keep hb)
  have t0 : (c.kind == 0) = false := kind_no 0 (by omega)
  have t1 : (c.kind == 1) = false := kind_no 1 (by omega)
  have t2 : (c.kind == 2) = true := kind_yes 2 (by omega)
  have t3 : (c.kind == 3) = false := kind_no 3 (by omega)
  have t7 : (c.kind == 7) = false := kind_no 7 (by omega)
  have HX := Lib.hid hx
  have HT := Lib.hid ht
  have HY := Lib.hid hy
  have HL := Lib.hid hxl
  have HYL := Lib.hid hyl
  have HE := Lib.hid hxe
  unfold chgV
  rw [hi, hj]
  clear ht hk hi hj hx hy hxl hyl hxe H
  go_enter Tryz.func38, Tryz.ntmps38
  go_wp2_with (go_at_call 65; refine (enter_any h i j x y c.name _ (HK.out _ (HBa.out _)) HX.out HY.out HL.out HYL.out HE.out).mono ?_; rintro e w3 ⟨rfl, h', hp', hm', H3, G3⟩; rw [HT.out] at hm'; have R := Lib.hid (show ∃ h', h'.p = h.p ∧ h'.M = (h.M.modify i (addEnt c.name j)).modify t moreLinks ∧ Fs h' w3 ∧ Grew h h' w w3 from ⟨h', hp', hm', H3, (Grew.of_below (HBa.out _)).trans G3⟩); clear hp' hm' H3 G3)
  go_ret
  exact ⟨rfl, R.out⟩
theorem carry_7 (h : Fsh) (i : Nat) (x : Nd × Value) (c : Chg) (w : World) (H : Fs h w) (hk : c.kind = 7) (hi : c.to = (i : Int)) (hx : h.X[i]? = some x) (hX : h.X.length ≤ 1000000) :
    Calls Tryz.prog 38 #[.pointer (some ⟨h.p, 0, none⟩), chgV c] w fun e w' => e = .returned (.int .i64 (h.X.length : Int)) ∧
      ∃ h', h'.p = h.p ∧ h'.M = coveredM h.M i c.a x.1.up ∧ Fs h' w' ∧ Grew h h' w w' := by
  have HBa := Lib.hid (show ∀ o, Below w.heap.size w (w.alloc o) from fun o => (Below.refl _ _).alloc (Nat.le_refl _) _)
  have HK := Lib.hid (show ∀ W, Below w.heap.size w W → Fs h W from fun W hb => H.keep hb)
  have t0 : (c.kind == 0) = false := kind_no 0 (by omega)
  have t1 : (c.kind == 1) = false := kind_no 1 (by omega)
  have t2 : (c.kind == 2) = false := kind_no 2 (by omega)
  have t3 : (c.kind == 3) = false := kind_no 3 (by omega)
  have t7 : (c.kind == 7) = true := kind_yes 7 (by omega)
  have HX := Lib.hid hx
  unfold chgV
  rw [hi]
  clear hk hi hx H
  go_enter Tryz.func38, Tryz.ntmps38
  go_wp2_with (go_at_call 67; refine (cover_any h i x c.a _ (HK.out _ (HBa.out _)) HX.out hX).mono ?_; rintro e w3 ⟨rfl, h', hp', hm', H3, G3⟩; have R := Lib.hid (show ∃ h', h'.p = h.p ∧ h'.M = coveredM h.M i c.a x.1.up ∧ Fs h' w3 ∧ Grew h h' w w3 from ⟨h', hp', hm', H3, (Grew.of_below (HBa.out _)).trans G3⟩); clear hp' hm' H3 G3)
  go_ret
  exact ⟨rfl, R.out⟩
theorem carry_set (h : Fsh) (i : Nat) (x : Nd × Value) (c : Chg) (w : World) (H : Fs h w) (hk : c.kind = 4 ∨ c.kind = 5 ∨ (c.kind = 6 ∧ 0 ≤ c.a ∧ c.a ≤ 2) ∨ c.kind = 8) (hi : c.to = (i : Int)) (hx : h.X[i]? = some x) :
    Calls Tryz.prog 38 #[.pointer (some ⟨h.p, 0, none⟩), chgV c] w fun e w' => e = .returned (.int .i64 0) ∧
      ∃ h', h'.p = h.p ∧ h'.M = h.M.modify i (setNd c) ∧ Fs h' w' ∧ Grew h h' w w' := by
  have hil : i < h.X.length := (List.getElem?_eq_some_iff.1 hx).1
  obtain ⟨g, cap, hv, _, _⟩ := H.slice (by omega)
  have HC := Lib.hid hk
  have HV := Lib.hid hv
  have HBa := Lib.hid (show Below w.heap.size w (w.alloc (chgBox c)).drew from ((Below.refl _ _).alloc (Nat.le_refl _) _).drew)
  have HK := Lib.hid (show ∀ W, Below w.heap.size w W → Fs h W from fun W hb => H.keep hb)
  have HNF := Lib.hid (show ¬ h.foot w.heap.size from fun e => by have := H.lt e; omega)
  have HX0 := Lib.hid (show (w.alloc (chgBox c)).drew.heap[w.heap.size]? = some (chgBox c) from heap_alloc_new _ _)
  have HX := Lib.hid hx
  have HS := Lib.hid (show ∀ W, W.heap[w.heap.size]? = some (chgBox c) → Fs ⟨h.p, h.v, []⟩ W ∨ Fs h W ∨ True → True from fun _ _ _ => trivial)
  have HCI := Lib.hid hi
  have HCB := Lib.hid (show ∀ W : World, W.heap[w.heap.size]? = some (chgBox c) → W.cell? ⟨h.p, 0, none⟩ = some h.v → W.cell? ⟨w.heap.size, 0, none⟩ = some (.int .i64 c.kind) ∧ W.cell? ⟨w.heap.size, 1, none⟩ = some (.int .i64 c.at_) ∧ W.cell? ⟨w.heap.size, 2, none⟩ = some (.int .i64 (i : Int)) ∧ W.cell? ⟨w.heap.size, 3, none⟩ = some (.string c.name) ∧ W.cell? ⟨w.heap.size, 4, none⟩ = some (.string c.text) ∧ W.cell? ⟨w.heap.size, 5, none⟩ = some (.int .i64 c.a) ∧ W.cell? ⟨w.heap.size, 6, none⟩ = some (.int .i64 c.b) ∧ W.cell? ⟨w.heap.size, 7, none⟩ = some (.int .i64 c.n) ∧ W.cell? ⟨h.p, 0, none⟩ = some (.slice (some ⟨g, 0, none⟩) h.X.length cap) from fun W hW hp => by
    have q := chg_cells hW
    rw [hi] at q
    rw [hv] at hp
    exact ⟨q.1, q.2.1, q.2.2.1, q.2.2.2.1, q.2.2.2.2.1, q.2.2.2.2.2.1, q.2.2.2.2.2.2.1, q.2.2.2.2.2.2.2, hp⟩)
  have HP0 := Lib.hid (H.keep HBa.out).cell0
  have t0 : (c.kind == 0) = false := kind_no 0 (by omega)
  have t1 : (c.kind == 1) = false := kind_no 1 (by omega)
  have t2 : (c.kind == 2) = false := kind_no 2 (by omega)
  have t3 : (c.kind == 3) = false := kind_no 3 (by omega)
  have t7 : (c.kind == 7) = false := kind_no 7 (by omega)
  have HCV := Lib.hid (show chgV c = .agg #[.int .i64 c.kind, .int .i64 c.at_, .int .i64 (i : Int), .string c.name, .string c.text, .int .i64 c.a, .int .i64 c.b, .int .i64 c.n] from by unfold chgV; rw [hi])
  have HXI := Lib.hid (show (w.alloc (.cells #[.int .i64 c.kind, .int .i64 c.at_, .int .i64 (i : Int), .string c.name, .string c.text, .int .i64 c.a, .int .i64 c.b, .int .i64 c.n] 56)).drew = (w.alloc (chgBox c)).drew from by unfold chgBox; rw [hi])
  rw [HCV.out]
  clear hk hi hx hv H HS
  go_enter Tryz.func38, Tryz.ntmps38
  go_wp2
  go_region_held3 (fun w' => w'.cell? ⟨w.heap.size, 0, none⟩ = some (.int .i64 c.kind) ∧ w'.cell? ⟨w.heap.size, 1, none⟩ = some (.int .i64 c.at_) ∧ w'.cell? ⟨w.heap.size, 2, none⟩ = some (.int .i64 (i : Int)) ∧ w'.cell? ⟨w.heap.size, 3, none⟩ = some (.string c.name) ∧ w'.cell? ⟨w.heap.size, 4, none⟩ = some (.string c.text) ∧ w'.cell? ⟨w.heap.size, 5, none⟩ = some (.int .i64 c.a) ∧ w'.cell? ⟨w.heap.size, 6, none⟩ = some (.int .i64 c.b) ∧ w'.cell? ⟨w.heap.size, 7, none⟩ = some (.int .i64 c.n) ∧ w'.cell? ⟨h.p, 0, none⟩ = some (.slice (some ⟨g, 0, none⟩) h.X.length cap)) (first | exact hk3 | (rw [HXI.out]; exact HCB.out _ HX0.out HP0.out)) (first
    | (go_at_call 68; rw [HXI.out, ← HCV.out]; refine (set_any h g cap i x.1 x.2 c _ (HK.out _ HBa.out) HV.out HX.out HC.out).mono ?_; rintro e w3 ⟨rfl, H3, G3⟩; have hk3 := HCB.out _ (box_grew HX0.out G3 HNF.out) H3.cell0; have R := Lib.hid (show ∃ h', h'.p = h.p ∧ h'.M = h.M.modify i (setNd c) ∧ Fs h' w3 ∧ Grew h h' w w3 from ⟨Fsh.mk h.p h.v (h.X.set i (setNd c x.1, x.2)), rfl, map_set (setNd c) HX.out, H3, (Grew.of_below HBa.out).trans G3⟩); clear H3 G3))
  all_goals go_wp2
  all_goals go_ret
  all_goals exact ⟨rfl, R.out⟩
end Go.Proofs.YtfhagjnlliafiaaGreatDoor.V
