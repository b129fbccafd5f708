/-
  What is wrong with a change, as the program tells it. Conditions: at most 1000000 entries.
-/
import Derived.Test.YtknfhphhcnbndaaGreatDoorGVEntry
set_option linter.unusedSimpArgs false
set_option linter.unusedVariables false
namespace Go.Proofs.YtknfhphhcnbndaaGreatDoor.V
open Go.RowKit

def makesB (k : Int) : Bool := k == 0 || k == 1 || k == 3 || k == 7
def baseE (M : Int → Option Nd) (c : Chg) : Int := if 0 ≤ c.kind ∧ c.kind ≤ 3 then entryE M c else if 4 ≤ c.kind ∧ c.kind ≤ 8 then nodeE M c else 1
def refuseE (M : Int → Option Nd) (len : Nat) (c : Chg) : Int := if baseE M c = 0 ∧ makesB c.kind = true ∧ 300 ≤ len then 9 else baseE M c

theorem kind_no {k : Int} (j : Int) (h : k ≠ j) : (k == j) = false := by simp [h]
theorem kind_yes {k : Int} (j : Int) (h : k = j) : (k == j) = true := by simp [h]

/-- The rest of the way, the error at hand. -/
theorem refuse_rest {M : Int → Option Nd} {len : Nat} {c : Chg} {e : Int} (h : baseE M c = e) :
    (e ≠ 0 → refuseE M len c = e) ∧ (e = 0 → makesB c.kind = false → refuseE M len c = e) ∧ (e = 0 → makesB c.kind = true → 300 ≤ len → refuseE M len c = 9) ∧ (e = 0 → makesB c.kind = true → ¬ 300 ≤ len → refuseE M len c = e) := by
  unfold refuseE
  rw [h]
  refine ⟨fun q => if_neg (fun x => q x.1), fun _ q => if_neg (fun x => by rw [q] at x; cases x.2.1), fun a b d => if_pos ⟨a, b, d⟩, fun _ _ q => if_neg (fun x => q x.2.2)⟩


set_option maxRecDepth 100000 in
set_option maxHeartbeats 8000000 in
theorem refuse_0 (h : Fsh) (c : Chg) (w : World) (H : Fs h w) (hn : 0 < h.X.length) (hE : ∀ x ∈ h.X, x.1.ents.length ≤ 1000000) (hk : c.kind = 0) :
    Calls Tryz.prog 79 #[.pointer (some ⟨h.p, 0, none⟩), chgV c] w fun e w' => e = .returned (.int .i64 (refuseE (ndAt h) h.X.length c)) ∧ Below w.heap.size w w' := by
  obtain ⟨g, cap, hv, _, _⟩ := H.slice hn
  have HP := Lib.hid (show ∀ W, Below w.heap.size w W → W.cell? ⟨h.p, 0, none⟩ = some (.slice (some ⟨g, 0, none⟩) h.X.length cap) from fun W hb => by rw [← hv]; exact (H.keep hb).cell0)
  have HBa := Lib.hid (show ∀ o, Below w.heap.size w (w.alloc o) from fun o => (Below.refl _ _).alloc (Nat.le_refl _) _)
  have HCALL := Lib.hid (entry_any h c (w.alloc (chgBox c)) (H.keep (HBa.out _)) hn hE)
  obtain ⟨e0, he0⟩ : ∃ e0, entryE (ndAt h) c = e0 := ⟨_, rfl⟩
  have HE := Lib.hid he0
  obtain ⟨r1, r2, r3, r4⟩ := refuse_rest (len := h.X.length) (show baseE (ndAt h) c = e0 from by unfold baseE; rw [if_pos (by omega)]; exact he0)
  have R1 := Lib.hid r1
  have R2 := Lib.hid r2
  have R3 := Lib.hid r3
  have R4 := Lib.hid r4
  have HCV := Lib.hid (show chgV c = .agg #[.int .i64 c.kind, .int .i64 c.at_, .int .i64 c.to, .string c.name, .string c.text, .int .i64 c.a, .int .i64 c.b, .int .i64 c.n] from rfl)
  have t0 : (c.kind == 0) = true := kind_yes 0 (by omega)
  have t1 : (c.kind == 1) = false := kind_no 1 (by omega)
  have t2 : (c.kind == 2) = false := kind_no 2 (by omega)
  have t3 : (c.kind == 3) = false := kind_no 3 (by omega)
  have t4 : (c.kind == 4) = false := kind_no 4 (by omega)
  have t5 : (c.kind == 5) = false := kind_no 5 (by omega)
  have t6 : (c.kind == 6) = false := kind_no 6 (by omega)
  have t7 : (c.kind == 7) = false := kind_no 7 (by omega)
  have t8 : (c.kind == 8) = false := kind_no 8 (by omega)
  have hmm : makesB c.kind = true := by unfold makesB; rw [t0, t1, t3, t7]; rfl
  have HM := Lib.hid hmm
  have hm : (c.kind == 0 || c.kind == 1 || c.kind == 3 || c.kind == 7) = true := hmm
  clear hmm r1 r2 r3 r4 he0 hk hv H hE
  rw [HCV.out]
  by_cases h0 : e0 = 0
  · have b0 : (e0 == 0) = true := by simp [h0]
    have H0 := Lib.hid h0
    clear h0
    by_cases hl : 300 ≤ h.X.length
    · have dl : decide ((300 : Int) ≤ (h.X.length : Int)) = true := decide_eq_true (by omega)
      go_enter Tryz.func79, Tryz.ntmps79
      go_wp2_with (first
        | (go_at_call 124; rw [← HCV.out]; refine HCALL.out.mono ?_; rintro e w2 ⟨rfl, hb2⟩; rw [HE.out]; have HB2 := Lib.hid (below_two (HBa.out _) hb2); obtain ⟨q0, q1, q2, q3, q4, q5, q6, q7⟩ := chg_cells (box_keep hb2); have z0 := HP.out _ HB2.out; clear hb2)
        | (go_at_call 126; refine (makes_any c.kind _).mono ?_; rintro e w3 ⟨rfl, hw⟩; subst hw; rw [hm]))
      go_ret
      exact ⟨ret_int (R3.out H0.out HM.out hl).symm, HB2.out⟩
    · have dl : decide ((300 : Int) ≤ (h.X.length : Int)) = false := decide_eq_false (by omega)
      go_enter Tryz.func79, Tryz.ntmps79
      go_wp2_with (first
        | (go_at_call 124; rw [← HCV.out]; refine HCALL.out.mono ?_; rintro e w2 ⟨rfl, hb2⟩; rw [HE.out]; have HB2 := Lib.hid (below_two (HBa.out _) hb2); obtain ⟨q0, q1, q2, q3, q4, q5, q6, q7⟩ := chg_cells (box_keep hb2); have z0 := HP.out _ HB2.out; clear hb2)
        | (go_at_call 126; refine (makes_any c.kind _).mono ?_; rintro e w3 ⟨rfl, hw⟩; subst hw; rw [hm]))
      go_ret
      exact ⟨ret_int (R4.out H0.out HM.out hl).symm, HB2.out⟩
  · have b0 : (e0 == 0) = false := by simp [h0]
    have H0 := Lib.hid h0
    clear h0
    go_enter Tryz.func79, Tryz.ntmps79
    go_wp2_with (first
      | (go_at_call 124; rw [← HCV.out]; refine HCALL.out.mono ?_; rintro e w2 ⟨rfl, hb2⟩; rw [HE.out]; have HB2 := Lib.hid (below_two (HBa.out _) hb2); obtain ⟨q0, q1, q2, q3, q4, q5, q6, q7⟩ := chg_cells (box_keep hb2); have z0 := HP.out _ HB2.out; clear hb2)
      | (go_at_call 126; refine (makes_any c.kind _).mono ?_; rintro e w3 ⟨rfl, hw⟩; subst hw; rw [hm]))
    go_ret
    exact ⟨ret_int (R1.out H0.out).symm, HB2.out⟩

set_option maxRecDepth 100000 in
set_option maxHeartbeats 8000000 in
theorem refuse_1 (h : Fsh) (c : Chg) (w : World) (H : Fs h w) (hn : 0 < h.X.length) (hE : ∀ x ∈ h.X, x.1.ents.length ≤ 1000000) (hk : c.kind = 1) :
    Calls Tryz.prog 79 #[.pointer (some ⟨h.p, 0, none⟩), chgV c] w fun e w' => e = .returned (.int .i64 (refuseE (ndAt h) h.X.length c)) ∧ Below w.heap.size w w' := by
  obtain ⟨g, cap, hv, _, _⟩ := H.slice hn
  have HP := Lib.hid (show ∀ W, Below w.heap.size w W → W.cell? ⟨h.p, 0, none⟩ = some (.slice (some ⟨g, 0, none⟩) h.X.length cap) from fun W hb => by rw [← hv]; exact (H.keep hb).cell0)
  have HBa := Lib.hid (show ∀ o, Below w.heap.size w (w.alloc o) from fun o => (Below.refl _ _).alloc (Nat.le_refl _) _)
  have HCALL := Lib.hid (entry_any h c (w.alloc (chgBox c)) (H.keep (HBa.out _)) hn hE)
  obtain ⟨e0, he0⟩ : ∃ e0, entryE (ndAt h) c = e0 := ⟨_, rfl⟩
  have HE := Lib.hid he0
  obtain ⟨r1, r2, r3, r4⟩ := refuse_rest (len := h.X.length) (show baseE (ndAt h) c = e0 from by unfold baseE; rw [if_pos (by omega)]; exact he0)
  have R1 := Lib.hid r1
  have R2 := Lib.hid r2
  have R3 := Lib.hid r3
  have R4 := Lib.hid r4
  have HCV := Lib.hid (show chgV c = .agg #[.int .i64 c.kind, .int .i64 c.at_, .int .i64 c.to, .string c.name, .string c.text, .int .i64 c.a, .int .i64 c.b, .int .i64 c.n] from rfl)
  have t0 : (c.kind == 0) = false := kind_no 0 (by omega)
  have t1 : (c.kind == 1) = true := kind_yes 1 (by omega)
  have t2 : (c.kind == 2) = false := kind_no 2 (by omega)
  have t3 : (c.kind == 3) = false := kind_no 3 (by omega)
  have t4 : (c.kind == 4) = false := kind_no 4 (by omega)
  have t5 : (c.kind == 5) = false := kind_no 5 (by omega)
  have t6 : (c.kind == 6) = false := kind_no 6 (by omega)
  have t7 : (c.kind == 7) = false := kind_no 7 (by omega)
  have t8 : (c.kind == 8) = false := kind_no 8 (by omega)
  have hmm : makesB c.kind = true := by unfold makesB; rw [t0, t1, t3, t7]; rfl
  have HM := Lib.hid hmm
  have hm : (c.kind == 0 || c.kind == 1 || c.kind == 3 || c.kind == 7) = true := hmm
  clear hmm r1 r2 r3 r4 he0 hk hv H hE
  rw [HCV.out]
  by_cases h0 : e0 = 0
  · have b0 : (e0 == 0) = true := by simp [h0]
    have H0 := Lib.hid h0
    clear h0
    by_cases hl : 300 ≤ h.X.length
    · have dl : decide ((300 : Int) ≤ (h.X.length : Int)) = true := decide_eq_true (by omega)
      go_enter Tryz.func79, Tryz.ntmps79
      go_wp2_with (first
        | (go_at_call 124; rw [← HCV.out]; refine HCALL.out.mono ?_; rintro e w2 ⟨rfl, hb2⟩; rw [HE.out]; have HB2 := Lib.hid (below_two (HBa.out _) hb2); obtain ⟨q0, q1, q2, q3, q4, q5, q6, q7⟩ := chg_cells (box_keep hb2); have z0 := HP.out _ HB2.out; clear hb2)
        | (go_at_call 126; refine (makes_any c.kind _).mono ?_; rintro e w3 ⟨rfl, hw⟩; subst hw; rw [hm]))
      go_ret
      exact ⟨ret_int (R3.out H0.out HM.out hl).symm, HB2.out⟩
    · have dl : decide ((300 : Int) ≤ (h.X.length : Int)) = false := decide_eq_false (by omega)
      go_enter Tryz.func79, Tryz.ntmps79
      go_wp2_with (first
        | (go_at_call 124; rw [← HCV.out]; refine HCALL.out.mono ?_; rintro e w2 ⟨rfl, hb2⟩; rw [HE.out]; have HB2 := Lib.hid (below_two (HBa.out _) hb2); obtain ⟨q0, q1, q2, q3, q4, q5, q6, q7⟩ := chg_cells (box_keep hb2); have z0 := HP.out _ HB2.out; clear hb2)
        | (go_at_call 126; refine (makes_any c.kind _).mono ?_; rintro e w3 ⟨rfl, hw⟩; subst hw; rw [hm]))
      go_ret
      exact ⟨ret_int (R4.out H0.out HM.out hl).symm, HB2.out⟩
  · have b0 : (e0 == 0) = false := by simp [h0]
    have H0 := Lib.hid h0
    clear h0
    go_enter Tryz.func79, Tryz.ntmps79
    go_wp2_with (first
      | (go_at_call 124; rw [← HCV.out]; refine HCALL.out.mono ?_; rintro e w2 ⟨rfl, hb2⟩; rw [HE.out]; have HB2 := Lib.hid (below_two (HBa.out _) hb2); obtain ⟨q0, q1, q2, q3, q4, q5, q6, q7⟩ := chg_cells (box_keep hb2); have z0 := HP.out _ HB2.out; clear hb2)
      | (go_at_call 126; refine (makes_any c.kind _).mono ?_; rintro e w3 ⟨rfl, hw⟩; subst hw; rw [hm]))
    go_ret
    exact ⟨ret_int (R1.out H0.out).symm, HB2.out⟩

set_option maxRecDepth 100000 in
set_option maxHeartbeats 8000000 in
theorem refuse_2 (h : Fsh) (c : Chg) (w : World) (H : Fs h w) (hn : 0 < h.X.length) (hE : ∀ x ∈ h.X, x.1.ents.length ≤ 1000000) (hk : c.kind = 2) :
    Calls Tryz.prog 79 #[.pointer (some ⟨h.p, 0, none⟩), chgV c] w fun e w' => e = .returned (.int .i64 (refuseE (ndAt h) h.X.length c)) ∧ Below w.heap.size w w' := by
  obtain ⟨g, cap, hv, _, _⟩ := H.slice hn
  have HP := Lib.hid (show ∀ W, Below w.heap.size w W → W.cell? ⟨h.p, 0, none⟩ = some (.slice (some ⟨g, 0, none⟩) h.X.length cap) from fun W hb => by rw [← hv]; exact (H.keep hb).cell0)
  have HBa := Lib.hid (show ∀ o, Below w.heap.size w (w.alloc o) from fun o => (Below.refl _ _).alloc (Nat.le_refl _) _)
  have HCALL := Lib.hid (entry_any h c (w.alloc (chgBox c)) (H.keep (HBa.out _)) hn hE)
  obtain ⟨e0, he0⟩ : ∃ e0, entryE (ndAt h) c = e0 := ⟨_, rfl⟩
  have HE := Lib.hid he0
  obtain ⟨r1, r2, r3, r4⟩ := refuse_rest (len := h.X.length) (show baseE (ndAt h) c = e0 from by unfold baseE; rw [if_pos (by omega)]; exact he0)
  have R1 := Lib.hid r1
  have R2 := Lib.hid r2
  have R3 := Lib.hid r3
  have R4 := Lib.hid r4
  have HCV := Lib.hid (show chgV c = .agg #[.int .i64 c.kind, .int .i64 c.at_, .int .i64 c.to, .string c.name, .string c.text, .int .i64 c.a, .int .i64 c.b, .int .i64 c.n] from rfl)
  have t0 : (c.kind == 0) = false := kind_no 0 (by omega)
  have t1 : (c.kind == 1) = false := kind_no 1 (by omega)
  have t2 : (c.kind == 2) = true := kind_yes 2 (by omega)
  have t3 : (c.kind == 3) = false := kind_no 3 (by omega)
  have t4 : (c.kind == 4) = false := kind_no 4 (by omega)
  have t5 : (c.kind == 5) = false := kind_no 5 (by omega)
  have t6 : (c.kind == 6) = false := kind_no 6 (by omega)
  have t7 : (c.kind == 7) = false := kind_no 7 (by omega)
  have t8 : (c.kind == 8) = false := kind_no 8 (by omega)
  have hmm : makesB c.kind = false := by unfold makesB; rw [t0, t1, t3, t7]; rfl
  have HM := Lib.hid hmm
  have hm : (c.kind == 0 || c.kind == 1 || c.kind == 3 || c.kind == 7) = false := hmm
  clear hmm r1 r2 r3 r4 he0 hk hv H hE
  rw [HCV.out]
  by_cases h0 : e0 = 0
  · have b0 : (e0 == 0) = true := by simp [h0]
    have H0 := Lib.hid h0
    clear h0
    go_enter Tryz.func79, Tryz.ntmps79
    go_wp2_with (first
      | (go_at_call 124; rw [← HCV.out]; refine HCALL.out.mono ?_; rintro e w2 ⟨rfl, hb2⟩; rw [HE.out]; have HB2 := Lib.hid (below_two (HBa.out _) hb2); obtain ⟨q0, q1, q2, q3, q4, q5, q6, q7⟩ := chg_cells (box_keep hb2); have z0 := HP.out _ HB2.out; clear hb2)
      | (go_at_call 126; refine (makes_any c.kind _).mono ?_; rintro e w3 ⟨rfl, hw⟩; subst hw; rw [hm]))
    go_ret
    exact ⟨ret_int (R2.out H0.out HM.out).symm, HB2.out⟩
  · have b0 : (e0 == 0) = false := by simp [h0]
    have H0 := Lib.hid h0
    clear h0
    go_enter Tryz.func79, Tryz.ntmps79
    go_wp2_with (first
      | (go_at_call 124; rw [← HCV.out]; refine HCALL.out.mono ?_; rintro e w2 ⟨rfl, hb2⟩; rw [HE.out]; have HB2 := Lib.hid (below_two (HBa.out _) hb2); obtain ⟨q0, q1, q2, q3, q4, q5, q6, q7⟩ := chg_cells (box_keep hb2); have z0 := HP.out _ HB2.out; clear hb2)
      | (go_at_call 126; refine (makes_any c.kind _).mono ?_; rintro e w3 ⟨rfl, hw⟩; subst hw; rw [hm]))
    go_ret
    exact ⟨ret_int (R1.out H0.out).symm, HB2.out⟩

set_option maxRecDepth 100000 in
set_option maxHeartbeats 8000000 in
theorem refuse_3 (h : Fsh) (c : Chg) (w : World) (H : Fs h w) (hn : 0 < h.X.length) (hE : ∀ x ∈ h.X, x.1.ents.length ≤ 1000000) (hk : c.kind = 3) :
    Calls Tryz.prog 79 #[.pointer (some ⟨h.p, 0, none⟩), chgV c] w fun e w' => e = .returned (.int .i64 (refuseE (ndAt h) h.X.length c)) ∧ Below w.heap.size w w' := by
  obtain ⟨g, cap, hv, _, _⟩ := H.slice hn
  have HP := Lib.hid (show ∀ W, Below w.heap.size w W → W.cell? ⟨h.p, 0, none⟩ = some (.slice (some ⟨g, 0, none⟩) h.X.length cap) from fun W hb => by rw [← hv]; exact (H.keep hb).cell0)
  have HBa := Lib.hid (show ∀ o, Below w.heap.size w (w.alloc o) from fun o => (Below.refl _ _).alloc (Nat.le_refl _) _)
  have HCALL := Lib.hid (entry_any h c (w.alloc (chgBox c)) (H.keep (HBa.out _)) hn hE)
  obtain ⟨e0, he0⟩ : ∃ e0, entryE (ndAt h) c = e0 := ⟨_, rfl⟩
  have HE := Lib.hid he0
  obtain ⟨r1, r2, r3, r4⟩ := refuse_rest (len := h.X.length) (show baseE (ndAt h) c = e0 from by unfold baseE; rw [if_pos (by omega)]; exact he0)
  have R1 := Lib.hid r1
  have R2 := Lib.hid r2
  have R3 := Lib.hid r3
  have R4 := Lib.hid r4
  have HCV := Lib.hid (show chgV c = .agg #[.int .i64 c.kind, .int .i64 c.at_, .int .i64 c.to, .string c.name, .string c.text, .int .i64 c.a, .int .i64 c.b, .int .i64 c.n] from rfl)
  have t0 : (c.kind == 0) = false := kind_no 0 (by omega)
  have t1 : (c.kind == 1) = false := kind_no 1 (by omega)
  have t2 : (c.kind == 2) = false := kind_no 2 (by omega)
  have t3 : (c.kind == 3) = true := kind_yes 3 (by omega)
  have t4 : (c.kind == 4) = false := kind_no 4 (by omega)
  have t5 : (c.kind == 5) = false := kind_no 5 (by omega)
  have t6 : (c.kind == 6) = false := kind_no 6 (by omega)
  have t7 : (c.kind == 7) = false := kind_no 7 (by omega)
  have t8 : (c.kind == 8) = false := kind_no 8 (by omega)
  have hmm : makesB c.kind = true := by unfold makesB; rw [t0, t1, t3, t7]; rfl
  have HM := Lib.hid hmm
  have hm : (c.kind == 0 || c.kind == 1 || c.kind == 3 || c.kind == 7) = true := hmm
  clear hmm r1 r2 r3 r4 he0 hk hv H hE
  rw [HCV.out]
  by_cases h0 : e0 = 0
  · have b0 : (e0 == 0) = true := by simp [h0]
    have H0 := Lib.hid h0
    clear h0
    by_cases hl : 300 ≤ h.X.length
    · have dl : decide ((300 : Int) ≤ (h.X.length : Int)) = true := decide_eq_true (by omega)
      go_enter Tryz.func79, Tryz.ntmps79
      go_wp2_with (first
        | (go_at_call 124; rw [← HCV.out]; refine HCALL.out.mono ?_; rintro e w2 ⟨rfl, hb2⟩; rw [HE.out]; have HB2 := Lib.hid (below_two (HBa.out _) hb2); obtain ⟨q0, q1, q2, q3, q4, q5, q6, q7⟩ := chg_cells (box_keep hb2); have z0 := HP.out _ HB2.out; clear hb2)
        | (go_at_call 126; refine (makes_any c.kind _).mono ?_; rintro e w3 ⟨rfl, hw⟩; subst hw; rw [hm]))
      go_ret
      exact ⟨ret_int (R3.out H0.out HM.out hl).symm, HB2.out⟩
    · have dl : decide ((300 : Int) ≤ (h.X.length : Int)) = false := decide_eq_false (by omega)
      go_enter Tryz.func79, Tryz.ntmps79
      go_wp2_with (first
        | (go_at_call 124; rw [← HCV.out]; refine HCALL.out.mono ?_; rintro e w2 ⟨rfl, hb2⟩; rw [HE.out]; have HB2 := Lib.hid (below_two (HBa.out _) hb2); obtain ⟨q0, q1, q2, q3, q4, q5, q6, q7⟩ := chg_cells (box_keep hb2); have z0 := HP.out _ HB2.out; clear hb2)
        | (go_at_call 126; refine (makes_any c.kind _).mono ?_; rintro e w3 ⟨rfl, hw⟩; subst hw; rw [hm]))
      go_ret
      exact ⟨ret_int (R4.out H0.out HM.out hl).symm, HB2.out⟩
  · have b0 : (e0 == 0) = false := by simp [h0]
    have H0 := Lib.hid h0
    clear h0
    go_enter Tryz.func79, Tryz.ntmps79
    go_wp2_with (first
      | (go_at_call 124; rw [← HCV.out]; refine HCALL.out.mono ?_; rintro e w2 ⟨rfl, hb2⟩; rw [HE.out]; have HB2 := Lib.hid (below_two (HBa.out _) hb2); obtain ⟨q0, q1, q2, q3, q4, q5, q6, q7⟩ := chg_cells (box_keep hb2); have z0 := HP.out _ HB2.out; clear hb2)
      | (go_at_call 126; refine (makes_any c.kind _).mono ?_; rintro e w3 ⟨rfl, hw⟩; subst hw; rw [hm]))
    go_ret
    exact ⟨ret_int (R1.out H0.out).symm, HB2.out⟩

set_option maxRecDepth 100000 in
set_option maxHeartbeats 8000000 in
theorem refuse_4 (h : Fsh) (c : Chg) (w : World) (H : Fs h w) (hn : 0 < h.X.length) (hE : ∀ x ∈ h.X, x.1.ents.length ≤ 1000000) (hk : c.kind = 4) :
    Calls Tryz.prog 79 #[.pointer (some ⟨h.p, 0, none⟩), chgV c] w fun e w' => e = .returned (.int .i64 (refuseE (ndAt h) h.X.length c)) ∧ Below w.heap.size w w' := by
  obtain ⟨g, cap, hv, _, _⟩ := H.slice hn
  have HP := Lib.hid (show ∀ W, Below w.heap.size w W → W.cell? ⟨h.p, 0, none⟩ = some (.slice (some ⟨g, 0, none⟩) h.X.length cap) from fun W hb => by rw [← hv]; exact (H.keep hb).cell0)
  have HBa := Lib.hid (show ∀ o, Below w.heap.size w (w.alloc o) from fun o => (Below.refl _ _).alloc (Nat.le_refl _) _)
  have HCALL := Lib.hid (node_any h c (w.alloc (chgBox c)) (H.keep (HBa.out _)) hn)
  obtain ⟨e0, he0⟩ : ∃ e0, nodeE (ndAt h) c = e0 := ⟨_, rfl⟩
  have HE := Lib.hid he0
  obtain ⟨r1, r2, r3, r4⟩ := refuse_rest (len := h.X.length) (show baseE (ndAt h) c = e0 from by unfold baseE; rw [if_neg (by omega), if_pos (by omega)]; exact he0)
  have R1 := Lib.hid r1
  have R2 := Lib.hid r2
  have R3 := Lib.hid r3
  have R4 := Lib.hid r4
  have HCV := Lib.hid (show chgV c = .agg #[.int .i64 c.kind, .int .i64 c.at_, .int .i64 c.to, .string c.name, .string c.text, .int .i64 c.a, .int .i64 c.b, .int .i64 c.n] from rfl)
  have t0 : (c.kind == 0) = false := kind_no 0 (by omega)
  have t1 : (c.kind == 1) = false := kind_no 1 (by omega)
  have t2 : (c.kind == 2) = false := kind_no 2 (by omega)
  have t3 : (c.kind == 3) = false := kind_no 3 (by omega)
  have t4 : (c.kind == 4) = true := kind_yes 4 (by omega)
  have t5 : (c.kind == 5) = false := kind_no 5 (by omega)
  have t6 : (c.kind == 6) = false := kind_no 6 (by omega)
  have t7 : (c.kind == 7) = false := kind_no 7 (by omega)
  have t8 : (c.kind == 8) = false := kind_no 8 (by omega)
  have hmm : makesB c.kind = false := by unfold makesB; rw [t0, t1, t3, t7]; rfl
  have HM := Lib.hid hmm
  have hm : (c.kind == 0 || c.kind == 1 || c.kind == 3 || c.kind == 7) = false := hmm
  clear hmm r1 r2 r3 r4 he0 hk hv H hE
  rw [HCV.out]
  by_cases h0 : e0 = 0
  · have b0 : (e0 == 0) = true := by simp [h0]
    have H0 := Lib.hid h0
    clear h0
    go_enter Tryz.func79, Tryz.ntmps79
    go_wp2_with (first
      | (go_at_call 125; rw [← HCV.out]; refine HCALL.out.mono ?_; rintro e w2 ⟨rfl, hb2⟩; rw [HE.out]; have HB2 := Lib.hid (below_two (HBa.out _) hb2); obtain ⟨q0, q1, q2, q3, q4, q5, q6, q7⟩ := chg_cells (box_keep hb2); have z0 := HP.out _ HB2.out; clear hb2)
      | (go_at_call 126; refine (makes_any c.kind _).mono ?_; rintro e w3 ⟨rfl, hw⟩; subst hw; rw [hm]))
    go_ret
    exact ⟨ret_int (R2.out H0.out HM.out).symm, HB2.out⟩
  · have b0 : (e0 == 0) = false := by simp [h0]
    have H0 := Lib.hid h0
    clear h0
    go_enter Tryz.func79, Tryz.ntmps79
    go_wp2_with (first
      | (go_at_call 125; rw [← HCV.out]; refine HCALL.out.mono ?_; rintro e w2 ⟨rfl, hb2⟩; rw [HE.out]; have HB2 := Lib.hid (below_two (HBa.out _) hb2); obtain ⟨q0, q1, q2, q3, q4, q5, q6, q7⟩ := chg_cells (box_keep hb2); have z0 := HP.out _ HB2.out; clear hb2)
      | (go_at_call 126; refine (makes_any c.kind _).mono ?_; rintro e w3 ⟨rfl, hw⟩; subst hw; rw [hm]))
    go_ret
    exact ⟨ret_int (R1.out H0.out).symm, HB2.out⟩

set_option maxRecDepth 100000 in
set_option maxHeartbeats 8000000 in
theorem refuse_5 (h : Fsh) (c : Chg) (w : World) (H : Fs h w) (hn : 0 < h.X.length) (hE : ∀ x ∈ h.X, x.1.ents.length ≤ 1000000) (hk : c.kind = 5) :
    Calls Tryz.prog 79 #[.pointer (some ⟨h.p, 0, none⟩), chgV c] w fun e w' => e = .returned (.int .i64 (refuseE (ndAt h) h.X.length c)) ∧ Below w.heap.size w w' := by
  obtain ⟨g, cap, hv, _, _⟩ := H.slice hn
  have HP := Lib.hid (show ∀ W, Below w.heap.size w W → W.cell? ⟨h.p, 0, none⟩ = some (.slice (some ⟨g, 0, none⟩) h.X.length cap) from fun W hb => by rw [← hv]; exact (H.keep hb).cell0)
  have HBa := Lib.hid (show ∀ o, Below w.heap.size w (w.alloc o) from fun o => (Below.refl _ _).alloc (Nat.le_refl _) _)
  have HCALL := Lib.hid (node_any h c (w.alloc (chgBox c)) (H.keep (HBa.out _)) hn)
  obtain ⟨e0, he0⟩ : ∃ e0, nodeE (ndAt h) c = e0 := ⟨_, rfl⟩
  have HE := Lib.hid he0
  obtain ⟨r1, r2, r3, r4⟩ := refuse_rest (len := h.X.length) (show baseE (ndAt h) c = e0 from by unfold baseE; rw [if_neg (by omega), if_pos (by omega)]; exact he0)
  have R1 := Lib.hid r1
  have R2 := Lib.hid r2
  have R3 := Lib.hid r3
  have R4 := Lib.hid r4
  have HCV := Lib.hid (show chgV c = .agg #[.int .i64 c.kind, .int .i64 c.at_, .int .i64 c.to, .string c.name, .string c.text, .int .i64 c.a, .int .i64 c.b, .int .i64 c.n] from rfl)
  have t0 : (c.kind == 0) = false := kind_no 0 (by omega)
  have t1 : (c.kind == 1) = false := kind_no 1 (by omega)
  have t2 : (c.kind == 2) = false := kind_no 2 (by omega)
  have t3 : (c.kind == 3) = false := kind_no 3 (by omega)
  have t4 : (c.kind == 4) = false := kind_no 4 (by omega)
  have t5 : (c.kind == 5) = true := kind_yes 5 (by omega)
  have t6 : (c.kind == 6) = false := kind_no 6 (by omega)
  have t7 : (c.kind == 7) = false := kind_no 7 (by omega)
  have t8 : (c.kind == 8) = false := kind_no 8 (by omega)
  have hmm : makesB c.kind = false := by unfold makesB; rw [t0, t1, t3, t7]; rfl
  have HM := Lib.hid hmm
  have hm : (c.kind == 0 || c.kind == 1 || c.kind == 3 || c.kind == 7) = false := hmm
  clear hmm r1 r2 r3 r4 he0 hk hv H hE
  rw [HCV.out]
  by_cases h0 : e0 = 0
  · have b0 : (e0 == 0) = true := by simp [h0]
    have H0 := Lib.hid h0
    clear h0
    go_enter Tryz.func79, Tryz.ntmps79
    go_wp2_with (first
      | (go_at_call 125; rw [← HCV.out]; refine HCALL.out.mono ?_; rintro e w2 ⟨rfl, hb2⟩; rw [HE.out]; have HB2 := Lib.hid (below_two (HBa.out _) hb2); obtain ⟨q0, q1, q2, q3, q4, q5, q6, q7⟩ := chg_cells (box_keep hb2); have z0 := HP.out _ HB2.out; clear hb2)
      | (go_at_call 126; refine (makes_any c.kind _).mono ?_; rintro e w3 ⟨rfl, hw⟩; subst hw; rw [hm]))
    go_ret
    exact ⟨ret_int (R2.out H0.out HM.out).symm, HB2.out⟩
  · have b0 : (e0 == 0) = false := by simp [h0]
    have H0 := Lib.hid h0
    clear h0
    go_enter Tryz.func79, Tryz.ntmps79
    go_wp2_with (first
      | (go_at_call 125; rw [← HCV.out]; refine HCALL.out.mono ?_; rintro e w2 ⟨rfl, hb2⟩; rw [HE.out]; have HB2 := Lib.hid (below_two (HBa.out _) hb2); obtain ⟨q0, q1, q2, q3, q4, q5, q6, q7⟩ := chg_cells (box_keep hb2); have z0 := HP.out _ HB2.out; clear hb2)
      | (go_at_call 126; refine (makes_any c.kind _).mono ?_; rintro e w3 ⟨rfl, hw⟩; subst hw; rw [hm]))
    go_ret
    exact ⟨ret_int (R1.out H0.out).symm, HB2.out⟩

set_option maxRecDepth 100000 in
set_option maxHeartbeats 8000000 in
theorem refuse_6 (h : Fsh) (c : Chg) (w : World) (H : Fs h w) (hn : 0 < h.X.length) (hE : ∀ x ∈ h.X, x.1.ents.length ≤ 1000000) (hk : c.kind = 6) :
    Calls Tryz.prog 79 #[.pointer (some ⟨h.p, 0, none⟩), chgV c] w fun e w' => e = .returned (.int .i64 (refuseE (ndAt h) h.X.length c)) ∧ Below w.heap.size w w' := by
  obtain ⟨g, cap, hv, _, _⟩ := H.slice hn
  have HP := Lib.hid (show ∀ W, Below w.heap.size w W → W.cell? ⟨h.p, 0, none⟩ = some (.slice (some ⟨g, 0, none⟩) h.X.length cap) from fun W hb => by rw [← hv]; exact (H.keep hb).cell0)
  have HBa := Lib.hid (show ∀ o, Below w.heap.size w (w.alloc o) from fun o => (Below.refl _ _).alloc (Nat.le_refl _) _)
  have HCALL := Lib.hid (node_any h c (w.alloc (chgBox c)) (H.keep (HBa.out _)) hn)
  obtain ⟨e0, he0⟩ : ∃ e0, nodeE (ndAt h) c = e0 := ⟨_, rfl⟩
  have HE := Lib.hid he0
  obtain ⟨r1, r2, r3, r4⟩ := refuse_rest (len := h.X.length) (show baseE (ndAt h) c = e0 from by unfold baseE; rw [if_neg (by omega), if_pos (by omega)]; exact he0)
  have R1 := Lib.hid r1
  have R2 := Lib.hid r2
  have R3 := Lib.hid r3
  have R4 := Lib.hid r4
  have HCV := Lib.hid (show chgV c = .agg #[.int .i64 c.kind, .int .i64 c.at_, .int .i64 c.to, .string c.name, .string c.text, .int .i64 c.a, .int .i64 c.b, .int .i64 c.n] from rfl)
  have t0 : (c.kind == 0) = false := kind_no 0 (by omega)
  have t1 : (c.kind == 1) = false := kind_no 1 (by omega)
  have t2 : (c.kind == 2) = false := kind_no 2 (by omega)
  have t3 : (c.kind == 3) = false := kind_no 3 (by omega)
  have t4 : (c.kind == 4) = false := kind_no 4 (by omega)
  have t5 : (c.kind == 5) = false := kind_no 5 (by omega)
  have t6 : (c.kind == 6) = true := kind_yes 6 (by omega)
  have t7 : (c.kind == 7) = false := kind_no 7 (by omega)
  have t8 : (c.kind == 8) = false := kind_no 8 (by omega)
  have hmm : makesB c.kind = false := by unfold makesB; rw [t0, t1, t3, t7]; rfl
  have HM := Lib.hid hmm
  have hm : (c.kind == 0 || c.kind == 1 || c.kind == 3 || c.kind == 7) = false := hmm
  clear hmm r1 r2 r3 r4 he0 hk hv H hE
  rw [HCV.out]
  by_cases h0 : e0 = 0
  · have b0 : (e0 == 0) = true := by simp [h0]
    have H0 := Lib.hid h0
    clear h0
    go_enter Tryz.func79, Tryz.ntmps79
    go_wp2_with (first
      | (go_at_call 125; rw [← HCV.out]; refine HCALL.out.mono ?_; rintro e w2 ⟨rfl, hb2⟩; rw [HE.out]; have HB2 := Lib.hid (below_two (HBa.out _) hb2); obtain ⟨q0, q1, q2, q3, q4, q5, q6, q7⟩ := chg_cells (box_keep hb2); have z0 := HP.out _ HB2.out; clear hb2)
      | (go_at_call 126; refine (makes_any c.kind _).mono ?_; rintro e w3 ⟨rfl, hw⟩; subst hw; rw [hm]))
    go_ret
    exact ⟨ret_int (R2.out H0.out HM.out).symm, HB2.out⟩
  · have b0 : (e0 == 0) = false := by simp [h0]
    have H0 := Lib.hid h0
    clear h0
    go_enter Tryz.func79, Tryz.ntmps79
    go_wp2_with (first
      | (go_at_call 125; rw [← HCV.out]; refine HCALL.out.mono ?_; rintro e w2 ⟨rfl, hb2⟩; rw [HE.out]; have HB2 := Lib.hid (below_two (HBa.out _) hb2); obtain ⟨q0, q1, q2, q3, q4, q5, q6, q7⟩ := chg_cells (box_keep hb2); have z0 := HP.out _ HB2.out; clear hb2)
      | (go_at_call 126; refine (makes_any c.kind _).mono ?_; rintro e w3 ⟨rfl, hw⟩; subst hw; rw [hm]))
    go_ret
    exact ⟨ret_int (R1.out H0.out).symm, HB2.out⟩

set_option maxRecDepth 100000 in
set_option maxHeartbeats 8000000 in
theorem refuse_7 (h : Fsh) (c : Chg) (w : World) (H : Fs h w) (hn : 0 < h.X.length) (hE : ∀ x ∈ h.X, x.1.ents.length ≤ 1000000) (hk : c.kind = 7) :
    Calls Tryz.prog 79 #[.pointer (some ⟨h.p, 0, none⟩), chgV c] w fun e w' => e = .returned (.int .i64 (refuseE (ndAt h) h.X.length c)) ∧ Below w.heap.size w w' := by
  obtain ⟨g, cap, hv, _, _⟩ := H.slice hn
  have HP := Lib.hid (show ∀ W, Below w.heap.size w W → W.cell? ⟨h.p, 0, none⟩ = some (.slice (some ⟨g, 0, none⟩) h.X.length cap) from fun W hb => by rw [← hv]; exact (H.keep hb).cell0)
  have HBa := Lib.hid (show ∀ o, Below w.heap.size w (w.alloc o) from fun o => (Below.refl _ _).alloc (Nat.le_refl _) _)
  have HCALL := Lib.hid (node_any h c (w.alloc (chgBox c)) (H.keep (HBa.out _)) hn)
  obtain ⟨e0, he0⟩ : ∃ e0, nodeE (ndAt h) c = e0 := ⟨_, rfl⟩
  have HE := Lib.hid he0
  obtain ⟨r1, r2, r3, r4⟩ := refuse_rest (len := h.X.length) (show baseE (ndAt h) c = e0 from by unfold baseE; rw [if_neg (by omega), if_pos (by omega)]; exact he0)
  have R1 := Lib.hid r1
  have R2 := Lib.hid r2
  have R3 := Lib.hid r3
  have R4 := Lib.hid r4
  have HCV := Lib.hid (show chgV c = .agg #[.int .i64 c.kind, .int .i64 c.at_, .int .i64 c.to, .string c.name, .string c.text, .int .i64 c.a, .int .i64 c.b, .int .i64 c.n] from rfl)
  have t0 : (c.kind == 0) = false := kind_no 0 (by omega)
  have t1 : (c.kind == 1) = false := kind_no 1 (by omega)
  have t2 : (c.kind == 2) = false := kind_no 2 (by omega)
  have t3 : (c.kind == 3) = false := kind_no 3 (by omega)
  have t4 : (c.kind == 4) = false := kind_no 4 (by omega)
  have t5 : (c.kind == 5) = false := kind_no 5 (by omega)
  have t6 : (c.kind == 6) = false := kind_no 6 (by omega)
  have t7 : (c.kind == 7) = true := kind_yes 7 (by omega)
  have t8 : (c.kind == 8) = false := kind_no 8 (by omega)
  have hmm : makesB c.kind = true := by unfold makesB; rw [t0, t1, t3, t7]; rfl
  have HM := Lib.hid hmm
  have hm : (c.kind == 0 || c.kind == 1 || c.kind == 3 || c.kind == 7) = true := hmm
  clear hmm r1 r2 r3 r4 he0 hk hv H hE
  rw [HCV.out]
  by_cases h0 : e0 = 0
  · have b0 : (e0 == 0) = true := by simp [h0]
    have H0 := Lib.hid h0
    clear h0
    by_cases hl : 300 ≤ h.X.length
    · have dl : decide ((300 : Int) ≤ (h.X.length : Int)) = true := decide_eq_true (by omega)
      go_enter Tryz.func79, Tryz.ntmps79
      go_wp2_with (first
        | (go_at_call 125; rw [← HCV.out]; refine HCALL.out.mono ?_; rintro e w2 ⟨rfl, hb2⟩; rw [HE.out]; have HB2 := Lib.hid (below_two (HBa.out _) hb2); obtain ⟨q0, q1, q2, q3, q4, q5, q6, q7⟩ := chg_cells (box_keep hb2); have z0 := HP.out _ HB2.out; clear hb2)
        | (go_at_call 126; refine (makes_any c.kind _).mono ?_; rintro e w3 ⟨rfl, hw⟩; subst hw; rw [hm]))
      go_ret
      exact ⟨ret_int (R3.out H0.out HM.out hl).symm, HB2.out⟩
    · have dl : decide ((300 : Int) ≤ (h.X.length : Int)) = false := decide_eq_false (by omega)
      go_enter Tryz.func79, Tryz.ntmps79
      go_wp2_with (first
        | (go_at_call 125; rw [← HCV.out]; refine HCALL.out.mono ?_; rintro e w2 ⟨rfl, hb2⟩; rw [HE.out]; have HB2 := Lib.hid (below_two (HBa.out _) hb2); obtain ⟨q0, q1, q2, q3, q4, q5, q6, q7⟩ := chg_cells (box_keep hb2); have z0 := HP.out _ HB2.out; clear hb2)
        | (go_at_call 126; refine (makes_any c.kind _).mono ?_; rintro e w3 ⟨rfl, hw⟩; subst hw; rw [hm]))
      go_ret
      exact ⟨ret_int (R4.out H0.out HM.out hl).symm, HB2.out⟩
  · have b0 : (e0 == 0) = false := by simp [h0]
    have H0 := Lib.hid h0
    clear h0
    go_enter Tryz.func79, Tryz.ntmps79
    go_wp2_with (first
      | (go_at_call 125; rw [← HCV.out]; refine HCALL.out.mono ?_; rintro e w2 ⟨rfl, hb2⟩; rw [HE.out]; have HB2 := Lib.hid (below_two (HBa.out _) hb2); obtain ⟨q0, q1, q2, q3, q4, q5, q6, q7⟩ := chg_cells (box_keep hb2); have z0 := HP.out _ HB2.out; clear hb2)
      | (go_at_call 126; refine (makes_any c.kind _).mono ?_; rintro e w3 ⟨rfl, hw⟩; subst hw; rw [hm]))
    go_ret
    exact ⟨ret_int (R1.out H0.out).symm, HB2.out⟩

set_option maxRecDepth 100000 in
set_option maxHeartbeats 8000000 in
theorem refuse_8 (h : Fsh) (c : Chg) (w : World) (H : Fs h w) (hn : 0 < h.X.length) (hE : ∀ x ∈ h.X, x.1.ents.length ≤ 1000000) (hk : c.kind = 8) :
    Calls Tryz.prog 79 #[.pointer (some ⟨h.p, 0, none⟩), chgV c] w fun e w' => e = .returned (.int .i64 (refuseE (ndAt h) h.X.length c)) ∧ Below w.heap.size w w' := by
  obtain ⟨g, cap, hv, _, _⟩ := H.slice hn
  have HP := Lib.hid (show ∀ W, Below w.heap.size w W → W.cell? ⟨h.p, 0, none⟩ = some (.slice (some ⟨g, 0, none⟩) h.X.length cap) from fun W hb => by rw [← hv]; exact (H.keep hb).cell0)
  have HBa := Lib.hid (show ∀ o, Below w.heap.size w (w.alloc o) from fun o => (Below.refl _ _).alloc (Nat.le_refl _) _)
  have HCALL := Lib.hid (node_any h c (w.alloc (chgBox c)) (H.keep (HBa.out _)) hn)
  obtain ⟨e0, he0⟩ : ∃ e0, nodeE (ndAt h) c = e0 := ⟨_, rfl⟩
  have HE := Lib.hid he0
  obtain ⟨r1, r2, r3, r4⟩ := refuse_rest (len := h.X.length) (show baseE (ndAt h) c = e0 from by unfold baseE; rw [if_neg (by omega), if_pos (by omega)]; exact he0)
  have R1 := Lib.hid r1
  have R2 := Lib.hid r2
  have R3 := Lib.hid r3
  have R4 := Lib.hid r4
  have HCV := Lib.hid (show chgV c = .agg #[.int .i64 c.kind, .int .i64 c.at_, .int .i64 c.to, .string c.name, .string c.text, .int .i64 c.a, .int .i64 c.b, .int .i64 c.n] from rfl)
  have t0 : (c.kind == 0) = false := kind_no 0 (by omega)
  have t1 : (c.kind == 1) = false := kind_no 1 (by omega)
  have t2 : (c.kind == 2) = false := kind_no 2 (by omega)
  have t3 : (c.kind == 3) = false := kind_no 3 (by omega)
  have t4 : (c.kind == 4) = false := kind_no 4 (by omega)
  have t5 : (c.kind == 5) = false := kind_no 5 (by omega)
  have t6 : (c.kind == 6) = false := kind_no 6 (by omega)
  have t7 : (c.kind == 7) = false := kind_no 7 (by omega)
  have t8 : (c.kind == 8) = true := kind_yes 8 (by omega)
  have hmm : makesB c.kind = false := by unfold makesB; rw [t0, t1, t3, t7]; rfl
  have HM := Lib.hid hmm
  have hm : (c.kind == 0 || c.kind == 1 || c.kind == 3 || c.kind == 7) = false := hmm
  clear hmm r1 r2 r3 r4 he0 hk hv H hE
  rw [HCV.out]
  by_cases h0 : e0 = 0
  · have b0 : (e0 == 0) = true := by simp [h0]
    have H0 := Lib.hid h0
    clear h0
    go_enter Tryz.func79, Tryz.ntmps79
    go_wp2_with (first
      | (go_at_call 125; rw [← HCV.out]; refine HCALL.out.mono ?_; rintro e w2 ⟨rfl, hb2⟩; rw [HE.out]; have HB2 := Lib.hid (below_two (HBa.out _) hb2); obtain ⟨q0, q1, q2, q3, q4, q5, q6, q7⟩ := chg_cells (box_keep hb2); have z0 := HP.out _ HB2.out; clear hb2)
      | (go_at_call 126; refine (makes_any c.kind _).mono ?_; rintro e w3 ⟨rfl, hw⟩; subst hw; rw [hm]))
    go_ret
    exact ⟨ret_int (R2.out H0.out HM.out).symm, HB2.out⟩
  · have b0 : (e0 == 0) = false := by simp [h0]
    have H0 := Lib.hid h0
    clear h0
    go_enter Tryz.func79, Tryz.ntmps79
    go_wp2_with (first
      | (go_at_call 125; rw [← HCV.out]; refine HCALL.out.mono ?_; rintro e w2 ⟨rfl, hb2⟩; rw [HE.out]; have HB2 := Lib.hid (below_two (HBa.out _) hb2); obtain ⟨q0, q1, q2, q3, q4, q5, q6, q7⟩ := chg_cells (box_keep hb2); have z0 := HP.out _ HB2.out; clear hb2)
      | (go_at_call 126; refine (makes_any c.kind _).mono ?_; rintro e w3 ⟨rfl, hw⟩; subst hw; rw [hm]))
    go_ret
    exact ⟨ret_int (R1.out H0.out).symm, HB2.out⟩

set_option maxRecDepth 100000 in
set_option maxHeartbeats 8000000 in
theorem refuse_no (h : Fsh) (c : Chg) (w : World) (hk : c.kind < 0 ∨ 8 < c.kind) :
    Calls Tryz.prog 79 #[.pointer (some ⟨h.p, 0, none⟩), chgV c] w fun e w' => e = .returned (.int .i64 (refuseE (ndAt h) h.X.length c)) ∧ Below w.heap.size w w' := by
  have HR := Lib.hid (show refuseE (ndAt h) h.X.length c = 1 from by
    unfold refuseE baseE
    rw [if_neg (show ¬ (0 ≤ c.kind ∧ c.kind ≤ 3) from by omega), if_neg (show ¬ (4 ≤ c.kind ∧ c.kind ≤ 8) from by omega), if_neg (fun e => by cases e.1)])
  have t0 : (c.kind == 0) = false := kind_no 0 (by omega)
  have t1 : (c.kind == 1) = false := kind_no 1 (by omega)
  have t2 : (c.kind == 2) = false := kind_no 2 (by omega)
  have t3 : (c.kind == 3) = false := kind_no 3 (by omega)
  have t4 : (c.kind == 4) = false := kind_no 4 (by omega)
  have t5 : (c.kind == 5) = false := kind_no 5 (by omega)
  have t6 : (c.kind == 6) = false := kind_no 6 (by omega)
  have t7 : (c.kind == 7) = false := kind_no 7 (by omega)
  have t8 : (c.kind == 8) = false := kind_no 8 (by omega)
  have HBa := Lib.hid (show ∀ o, Below w.heap.size w (w.alloc o) from fun o => (Below.refl _ _).alloc (Nat.le_refl _) _)
  clear hk
  unfold chgV
  go_enter Tryz.func79, Tryz.ntmps79
  go_wp2
  go_ret
  exact ⟨ret_int HR.out.symm, HBa.out _⟩

theorem refuse_any (h : Fsh) (c : Chg) (w : World) (H : Fs h w) (hn : 0 < h.X.length) (hE : ∀ x ∈ h.X, x.1.ents.length ≤ 1000000) :
    Calls Tryz.prog 79 #[.pointer (some ⟨h.p, 0, none⟩), chgV c] w fun e w' => e = .returned (.int .i64 (refuseE (ndAt h) h.X.length c)) ∧ Below w.heap.size w w' := by
  rcases (show c.kind = 0 ∨ c.kind = 1 ∨ c.kind = 2 ∨ c.kind = 3 ∨ c.kind = 4 ∨ c.kind = 5 ∨ c.kind = 6 ∨ c.kind = 7 ∨ c.kind = 8 ∨ (c.kind < 0 ∨ 8 < c.kind) from by omega) with q | q | q | q | q | q | q | q | q | q
  · exact refuse_0 h c w H hn hE q
  · exact refuse_1 h c w H hn hE q
  · exact refuse_2 h c w H hn hE q
  · exact refuse_3 h c w H hn hE q
  · exact refuse_4 h c w H hn hE q
  · exact refuse_5 h c w H hn hE q
  · exact refuse_6 h c w H hn hE q
  · exact refuse_7 h c w H hn hE q
  · exact refuse_8 h c w H hn hE q
  · exact refuse_no h c w q
end Go.Proofs.YtknfhphhcnbndaaGreatDoor.V
