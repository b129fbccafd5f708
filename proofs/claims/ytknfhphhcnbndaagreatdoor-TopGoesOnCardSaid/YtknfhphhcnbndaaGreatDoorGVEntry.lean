/-
  What is wrong with a change that makes an entry, as the program tells it. Conditions: at most 1000000 entries.
-/
import Derived.Test.YtknfhphhcnbndaaGreatDoorGVCheck
import Derived.Test.YtknfhphhcnbndaaGreatDoorGVGood
set_option linter.unusedVariables false
set_option linter.unusedSimpArgs false
namespace Go.Proofs.YtknfhphhcnbndaaGreatDoor.V
open Go.RowKit

def chgBox (c : Chg) : Obj := .cells #[.int .i64 c.kind, .int .i64 c.at_, .int .i64 c.to, .string c.name, .string c.text, .int .i64 c.a, .int .i64 c.b, .int .i64 c.n] 89
theorem box_keep {w w2 : World} {o : Obj} (hb : Below (w.alloc o).heap.size (w.alloc o) w2) : w2.heap[w.heap.size]? = some o := (hb.block _ (by simp)).trans (heap_alloc_new _ _)
theorem box_keep2 {w2 w3 : World} {k : Nat} {o : Obj} (h : w2.heap[k]? = some o) (hb : Below w2.heap.size w2 w3) : w3.heap[k]? = some o := (hb.block _ (heap_lt h)).trans h
theorem chg_cells {w : World} {k : Nat} {c : Chg} (h : w.heap[k]? = some (chgBox c)) :
    w.cell? ⟨k, 0, none⟩ = some (.int .i64 c.kind) ∧ w.cell? ⟨k, 1, none⟩ = some (.int .i64 c.at_) ∧ w.cell? ⟨k, 2, none⟩ = some (.int .i64 c.to) ∧ w.cell? ⟨k, 3, none⟩ = some (.string c.name) ∧ w.cell? ⟨k, 4, none⟩ = some (.string c.text) ∧ w.cell? ⟨k, 5, none⟩ = some (.int .i64 c.a) ∧ w.cell? ⟨k, 6, none⟩ = some (.int .i64 c.b) ∧ w.cell? ⟨k, 7, none⟩ = some (.int .i64 c.n) := by
  unfold chgBox at h
  refine ⟨?_, ?_, ?_, ?_, ?_, ?_, ?_, ?_⟩
  all_goals (rw [cell_of_row _ _ _ _ _ _ h]; rfl)

def entryE (M : Int → Option Nd) (c : Chg) : Int :=
  match M c.at_ with
  | none => 2
  | some x => if x.kind = 2 then (if goodB c.name = true then (if hasEnt c.name x.ents = true then 4 else if c.kind = 2 then shareE M c x.dev else if c.kind = 1 ∧ c.n < 0 then 1 else if c.kind = 3 ∧ textB c.text = false then 1 else 0) else 1) else 3

set_option maxRecDepth 100000 in
set_option maxHeartbeats 8000000 in
theorem entry_any (h : Fsh) (c : Chg) (w : World) (H : Fs h w) (hn : 0 < h.X.length) (hE : ∀ x ∈ h.X, x.1.ents.length ≤ 1000000) :
    Calls Tryz.prog 124 #[.pointer (some ⟨h.p, 0, none⟩), chgV c] w fun e w' => e = .returned (.int .i64 (entryE (ndAt h) c)) ∧ Below w.heap.size w w' := by
  have HK := Lib.hid (show ∀ W, Below w.heap.size w W → Fs h W from fun W hb => H.keep hb)
  have HBa := Lib.hid (show ∀ o, Below w.heap.size w (w.alloc o) from fun o => (Below.refl _ _).alloc (Nat.le_refl _) _)
  cases hto : ndAt h c.at_ with
  | none =>
    have hno := ndAt_none hto
    have HT := Lib.hid (show entryE (ndAt h) c = 2 from by unfold entryE; rw [hto])
    clear hto H hE
    unfold chgV
    go_enter Tryz.func124, Tryz.ntmps124
    go_wp2_with (go_at_call 65; refine (has_any h c.at_ _ (HK.out _ (HBa.out _)) hn).mono ?_; rintro e w2 ⟨rfl, hw⟩; subst hw; rw [hno])
    go_ret
    exact ⟨ret_int HT.out.symm, HBa.out _⟩
  | some n =>
    obtain ⟨k, y, hk, hy, hyn, hhas⟩ := ndAt_some hto
    subst hyn
    have HT := Lib.hid (show entryE (ndAt h) c = if y.1.kind = 2 then (if goodB c.name = true then (if hasEnt c.name y.1.ents = true then 4 else if c.kind = 2 then shareE (ndAt h) c y.1.dev else if c.kind = 1 ∧ c.n < 0 then 1 else if c.kind = 3 ∧ textB c.text = false then 1 else 0) else 1) else 3 from by unfold entryE; rw [hto])
    have HY := Lib.hid hy
    have HYE := Lib.hid (hE y (List.mem_of_getElem? hy))
    have HCk := Lib.hid hk
    rw [hk] at hhas
    clear hto H hy hE
    obtain ⟨c', hc'⟩ : ∃ c', c = c' := ⟨c, rfl⟩
    have HBx := Lib.hid (show ∀ W : World, W.heap[w.heap.size]? = some (.cells #[.int .i64 c.kind, .int .i64 (k : Int), .int .i64 c.to, .string c.name, .string c.text, .int .i64 c.a, .int .i64 c.b, .int .i64 c.n] 89) → W.cell? ⟨w.heap.size, 0, none⟩ = some (.int .i64 c.kind) ∧ W.cell? ⟨w.heap.size, 1, none⟩ = some (.int .i64 (k : Int)) ∧ W.cell? ⟨w.heap.size, 2, none⟩ = some (.int .i64 c.to) ∧ W.cell? ⟨w.heap.size, 3, none⟩ = some (.string c.name) ∧ W.cell? ⟨w.heap.size, 4, none⟩ = some (.string c.text) ∧ W.cell? ⟨w.heap.size, 5, none⟩ = some (.int .i64 c.a) ∧ W.cell? ⟨w.heap.size, 6, none⟩ = some (.int .i64 c.b) ∧ W.cell? ⟨w.heap.size, 7, none⟩ = some (.int .i64 c.n) from fun W hW => by
      have e : (.cells #[.int .i64 c.kind, .int .i64 (k : Int), .int .i64 c.to, .string c.name, .string c.text, .int .i64 c.a, .int .i64 c.b, .int .i64 c.n] 89 : Obj) = chgBox c := by unfold chgBox; rw [hk]
      rw [e] at hW
      rw [← hk]
      exact chg_cells hW)
    have HCV := Lib.hid (show chgV c = .agg #[.int .i64 c.kind, .int .i64 (k : Int), .int .i64 c.to, .string c.name, .string c.text, .int .i64 c.a, .int .i64 c.b, .int .i64 c.n] from by unfold chgV; rw [hk])
    rw [HCV.out]
    clear hc' hk
    by_cases hd : y.1.kind = 2
    · have b1 : (y.1.kind == 2) = true := by simp [hd]
      have HD := Lib.hid hd
      clear hd
      cases g1 : goodB c.name with
      | false =>
        have HR := Lib.hid (show entryE (ndAt h) c = 1 from by rw [HT.out, if_pos HD.out, if_neg (by rw [g1]; decide)])
        go_enter Tryz.func124, Tryz.ntmps124
        go_wp2_with (first
          | (go_at_call 65; refine (has_any h (k : Int) _ (HK.out _ (HBa.out _)) hn).mono ?_; rintro e w2 ⟨rfl, hw⟩; subst hw; rw [hhas])
          | (go_at_call 178; refine (isDir_any h k y _ (HK.out _ (HBa.out _)) HY.out).mono ?_; rintro e w2 ⟨rfl, hw⟩; subst hw; rw [b1])
          | (go_at_call 36; refine (good_any c.name _).mono ?_; rintro e w2 ⟨rfl, hb2⟩; rw [g1]; have HB2 := Lib.hid (below_two (HBa.out _) hb2); have HX2 := Lib.hid (box_keep hb2); obtain ⟨q0, q1, q2, q3, q4, q5, q6, q7⟩ := HBx.out _ (box_keep hb2); clear hb2)
          | (go_at_call 179; refine (hasEntry_any h k y c.name _ (HK.out _ HB2.out) HY.out HYE.out).mono ?_; rintro e w3 ⟨rfl, hb3⟩; rw [e1]; have HB3 := Lib.hid (below_two HB2.out hb3); have HX3 := Lib.hid (box_keep2 HX2.out hb3); obtain ⟨p0, p1, p2, p3, p4, p5, p6, p7⟩ := HBx.out _ (box_keep2 HX2.out hb3); clear hb3)
          | (go_at_call 180; rw [← HCV.out]; refine (share_any h k y c _ (HK.out _ HB3.out) HCk.out HY.out).mono ?_; rintro e w4 ⟨rfl, hb4⟩; have HB4 := Lib.hid (below_two HB3.out hb4); clear hb4)
          | (go_at_call 181; refine (goodText_any c.text _).mono ?_; rintro e w4 ⟨rfl, hw⟩; subst hw; rw [tx]))
        go_ret
        exact ⟨ret_int HR.out.symm, HB2.out⟩
      | true =>
        have HG := Lib.hid g1
        cases e1 : hasEnt c.name y.1.ents with
        | true =>
          have HR := Lib.hid (show entryE (ndAt h) c = 4 from by rw [HT.out, if_pos HD.out, if_pos HG.out, if_pos e1])
          go_enter Tryz.func124, Tryz.ntmps124
          go_wp2_with (first
            | (go_at_call 65; refine (has_any h (k : Int) _ (HK.out _ (HBa.out _)) hn).mono ?_; rintro e w2 ⟨rfl, hw⟩; subst hw; rw [hhas])
            | (go_at_call 178; refine (isDir_any h k y _ (HK.out _ (HBa.out _)) HY.out).mono ?_; rintro e w2 ⟨rfl, hw⟩; subst hw; rw [b1])
            | (go_at_call 36; refine (good_any c.name _).mono ?_; rintro e w2 ⟨rfl, hb2⟩; rw [g1]; have HB2 := Lib.hid (below_two (HBa.out _) hb2); have HX2 := Lib.hid (box_keep hb2); obtain ⟨q0, q1, q2, q3, q4, q5, q6, q7⟩ := HBx.out _ (box_keep hb2); clear hb2)
            | (go_at_call 179; refine (hasEntry_any h k y c.name _ (HK.out _ HB2.out) HY.out HYE.out).mono ?_; rintro e w3 ⟨rfl, hb3⟩; rw [e1]; have HB3 := Lib.hid (below_two HB2.out hb3); have HX3 := Lib.hid (box_keep2 HX2.out hb3); obtain ⟨p0, p1, p2, p3, p4, p5, p6, p7⟩ := HBx.out _ (box_keep2 HX2.out hb3); clear hb3)
            | (go_at_call 180; rw [← HCV.out]; refine (share_any h k y c _ (HK.out _ HB3.out) HCk.out HY.out).mono ?_; rintro e w4 ⟨rfl, hb4⟩; have HB4 := Lib.hid (below_two HB3.out hb4); clear hb4)
            | (go_at_call 181; refine (goodText_any c.text _).mono ?_; rintro e w4 ⟨rfl, hw⟩; subst hw; rw [tx]))
          go_ret
          exact ⟨ret_int HR.out.symm, HB3.out⟩
        | false =>
          have HT2 := Lib.hid (show entryE (ndAt h) c = if c.kind = 2 then shareE (ndAt h) c y.1.dev else if c.kind = 1 ∧ c.n < 0 then 1 else if c.kind = 3 ∧ textB c.text = false then 1 else 0 from by rw [HT.out, if_pos HD.out, if_pos HG.out, if_neg (by rw [e1]; decide)])
          by_cases k2 : c.kind = 2
          · have HR := Lib.hid (show entryE (ndAt h) c = shareE (ndAt h) c y.1.dev from by rw [HT2.out, if_pos k2])
            have HK2 := Lib.hid k2
            have t2 : (c.kind == 2) = true := by simp [k2]
            clear k2
            go_enter Tryz.func124, Tryz.ntmps124
            go_wp2_with (first
              | (go_at_call 65; refine (has_any h (k : Int) _ (HK.out _ (HBa.out _)) hn).mono ?_; rintro e w2 ⟨rfl, hw⟩; subst hw; rw [hhas])
              | (go_at_call 178; refine (isDir_any h k y _ (HK.out _ (HBa.out _)) HY.out).mono ?_; rintro e w2 ⟨rfl, hw⟩; subst hw; rw [b1])
              | (go_at_call 36; refine (good_any c.name _).mono ?_; rintro e w2 ⟨rfl, hb2⟩; rw [g1]; have HB2 := Lib.hid (below_two (HBa.out _) hb2); have HX2 := Lib.hid (box_keep hb2); obtain ⟨q0, q1, q2, q3, q4, q5, q6, q7⟩ := HBx.out _ (box_keep hb2); clear hb2)
              | (go_at_call 179; refine (hasEntry_any h k y c.name _ (HK.out _ HB2.out) HY.out HYE.out).mono ?_; rintro e w3 ⟨rfl, hb3⟩; rw [e1]; have HB3 := Lib.hid (below_two HB2.out hb3); have HX3 := Lib.hid (box_keep2 HX2.out hb3); obtain ⟨p0, p1, p2, p3, p4, p5, p6, p7⟩ := HBx.out _ (box_keep2 HX2.out hb3); clear hb3)
              | (go_at_call 180; rw [← HCV.out]; refine (share_any h k y c _ (HK.out _ HB3.out) HCk.out HY.out).mono ?_; rintro e w4 ⟨rfl, hb4⟩; have HB4 := Lib.hid (below_two HB3.out hb4); clear hb4)
              | (go_at_call 181; refine (goodText_any c.text _).mono ?_; rintro e w4 ⟨rfl, hw⟩; subst hw; rw [tx]))
            go_ret
            exact ⟨ret_int HR.out.symm, HB4.out⟩
          · have t2 : (c.kind == 2) = false := by simp [k2]
            have HT3 := Lib.hid (show entryE (ndAt h) c = if c.kind = 1 ∧ c.n < 0 then 1 else if c.kind = 3 ∧ textB c.text = false then 1 else 0 from by rw [HT2.out, if_neg k2])
            clear k2
            by_cases k1 : c.kind = 1
            · have t1 : (c.kind == 1) = true := by simp [k1]
              have t3 : (c.kind == 3) = false := by simp [k1]
              by_cases kn : c.n < 0
              · have HR := Lib.hid (show entryE (ndAt h) c = 1 from by rw [HT3.out, if_pos ⟨k1, kn⟩])
                clear k1
                go_enter Tryz.func124, Tryz.ntmps124
                go_wp2_with (first
                  | (go_at_call 65; refine (has_any h (k : Int) _ (HK.out _ (HBa.out _)) hn).mono ?_; rintro e w2 ⟨rfl, hw⟩; subst hw; rw [hhas])
                  | (go_at_call 178; refine (isDir_any h k y _ (HK.out _ (HBa.out _)) HY.out).mono ?_; rintro e w2 ⟨rfl, hw⟩; subst hw; rw [b1])
                  | (go_at_call 36; refine (good_any c.name _).mono ?_; rintro e w2 ⟨rfl, hb2⟩; rw [g1]; have HB2 := Lib.hid (below_two (HBa.out _) hb2); have HX2 := Lib.hid (box_keep hb2); obtain ⟨q0, q1, q2, q3, q4, q5, q6, q7⟩ := HBx.out _ (box_keep hb2); clear hb2)
                  | (go_at_call 179; refine (hasEntry_any h k y c.name _ (HK.out _ HB2.out) HY.out HYE.out).mono ?_; rintro e w3 ⟨rfl, hb3⟩; rw [e1]; have HB3 := Lib.hid (below_two HB2.out hb3); have HX3 := Lib.hid (box_keep2 HX2.out hb3); obtain ⟨p0, p1, p2, p3, p4, p5, p6, p7⟩ := HBx.out _ (box_keep2 HX2.out hb3); clear hb3)
                  | (go_at_call 180; rw [← HCV.out]; refine (share_any h k y c _ (HK.out _ HB3.out) HCk.out HY.out).mono ?_; rintro e w4 ⟨rfl, hb4⟩; have HB4 := Lib.hid (below_two HB3.out hb4); clear hb4)
                  | (go_at_call 181; refine (goodText_any c.text _).mono ?_; rintro e w4 ⟨rfl, hw⟩; subst hw; rw [tx]))
                go_ret
                exact ⟨ret_int HR.out.symm, HB3.out⟩
              · have HR := Lib.hid (show entryE (ndAt h) c = 0 from by rw [HT3.out, if_neg (fun e => kn e.2), if_neg (fun e => by rw [k1] at e; cases e.1)])
                clear k1
                go_enter Tryz.func124, Tryz.ntmps124
                go_wp2_with (first
                  | (go_at_call 65; refine (has_any h (k : Int) _ (HK.out _ (HBa.out _)) hn).mono ?_; rintro e w2 ⟨rfl, hw⟩; subst hw; rw [hhas])
                  | (go_at_call 178; refine (isDir_any h k y _ (HK.out _ (HBa.out _)) HY.out).mono ?_; rintro e w2 ⟨rfl, hw⟩; subst hw; rw [b1])
                  | (go_at_call 36; refine (good_any c.name _).mono ?_; rintro e w2 ⟨rfl, hb2⟩; rw [g1]; have HB2 := Lib.hid (below_two (HBa.out _) hb2); have HX2 := Lib.hid (box_keep hb2); obtain ⟨q0, q1, q2, q3, q4, q5, q6, q7⟩ := HBx.out _ (box_keep hb2); clear hb2)
                  | (go_at_call 179; refine (hasEntry_any h k y c.name _ (HK.out _ HB2.out) HY.out HYE.out).mono ?_; rintro e w3 ⟨rfl, hb3⟩; rw [e1]; have HB3 := Lib.hid (below_two HB2.out hb3); have HX3 := Lib.hid (box_keep2 HX2.out hb3); obtain ⟨p0, p1, p2, p3, p4, p5, p6, p7⟩ := HBx.out _ (box_keep2 HX2.out hb3); clear hb3)
                  | (go_at_call 180; rw [← HCV.out]; refine (share_any h k y c _ (HK.out _ HB3.out) HCk.out HY.out).mono ?_; rintro e w4 ⟨rfl, hb4⟩; have HB4 := Lib.hid (below_two HB3.out hb4); clear hb4)
                  | (go_at_call 181; refine (goodText_any c.text _).mono ?_; rintro e w4 ⟨rfl, hw⟩; subst hw; rw [tx]))
                go_ret
                exact ⟨ret_int HR.out.symm, HB3.out⟩
            · have t1 : (c.kind == 1) = false := by simp [k1]
              have HT4 := Lib.hid (show entryE (ndAt h) c = if c.kind = 3 ∧ textB c.text = false then 1 else 0 from by rw [HT3.out, if_neg (fun e => k1 e.1)])
              by_cases k3 : c.kind = 3
              · have t3 : (c.kind == 3) = true := by simp [k3]
                cases tx : textB c.text with
                | false =>
                  have HR := Lib.hid (show entryE (ndAt h) c = 1 from by rw [HT4.out, if_pos ⟨k3, tx⟩])
                  clear k3 k1
                  go_enter Tryz.func124, Tryz.ntmps124
                  go_wp2_with (first
                    | (go_at_call 65; refine (has_any h (k : Int) _ (HK.out _ (HBa.out _)) hn).mono ?_; rintro e w2 ⟨rfl, hw⟩; subst hw; rw [hhas])
                    | (go_at_call 178; refine (isDir_any h k y _ (HK.out _ (HBa.out _)) HY.out).mono ?_; rintro e w2 ⟨rfl, hw⟩; subst hw; rw [b1])
                    | (go_at_call 36; refine (good_any c.name _).mono ?_; rintro e w2 ⟨rfl, hb2⟩; rw [g1]; have HB2 := Lib.hid (below_two (HBa.out _) hb2); have HX2 := Lib.hid (box_keep hb2); obtain ⟨q0, q1, q2, q3, q4, q5, q6, q7⟩ := HBx.out _ (box_keep hb2); clear hb2)
                    | (go_at_call 179; refine (hasEntry_any h k y c.name _ (HK.out _ HB2.out) HY.out HYE.out).mono ?_; rintro e w3 ⟨rfl, hb3⟩; rw [e1]; have HB3 := Lib.hid (below_two HB2.out hb3); have HX3 := Lib.hid (box_keep2 HX2.out hb3); obtain ⟨p0, p1, p2, p3, p4, p5, p6, p7⟩ := HBx.out _ (box_keep2 HX2.out hb3); clear hb3)
                    | (go_at_call 180; rw [← HCV.out]; refine (share_any h k y c _ (HK.out _ HB3.out) HCk.out HY.out).mono ?_; rintro e w4 ⟨rfl, hb4⟩; have HB4 := Lib.hid (below_two HB3.out hb4); clear hb4)
                    | (go_at_call 181; refine (goodText_any c.text _).mono ?_; rintro e w4 ⟨rfl, hw⟩; subst hw; rw [tx]))
                  go_ret
                  exact ⟨ret_int HR.out.symm, HB3.out⟩
                | true =>
                  have HR := Lib.hid (show entryE (ndAt h) c = 0 from by rw [HT4.out, if_neg (fun e => by rw [tx] at e; cases e.2)])
                  clear k3 k1
                  go_enter Tryz.func124, Tryz.ntmps124
                  go_wp2_with (first
                    | (go_at_call 65; refine (has_any h (k : Int) _ (HK.out _ (HBa.out _)) hn).mono ?_; rintro e w2 ⟨rfl, hw⟩; subst hw; rw [hhas])
                    | (go_at_call 178; refine (isDir_any h k y _ (HK.out _ (HBa.out _)) HY.out).mono ?_; rintro e w2 ⟨rfl, hw⟩; subst hw; rw [b1])
                    | (go_at_call 36; refine (good_any c.name _).mono ?_; rintro e w2 ⟨rfl, hb2⟩; rw [g1]; have HB2 := Lib.hid (below_two (HBa.out _) hb2); have HX2 := Lib.hid (box_keep hb2); obtain ⟨q0, q1, q2, q3, q4, q5, q6, q7⟩ := HBx.out _ (box_keep hb2); clear hb2)
                    | (go_at_call 179; refine (hasEntry_any h k y c.name _ (HK.out _ HB2.out) HY.out HYE.out).mono ?_; rintro e w3 ⟨rfl, hb3⟩; rw [e1]; have HB3 := Lib.hid (below_two HB2.out hb3); have HX3 := Lib.hid (box_keep2 HX2.out hb3); obtain ⟨p0, p1, p2, p3, p4, p5, p6, p7⟩ := HBx.out _ (box_keep2 HX2.out hb3); clear hb3)
                    | (go_at_call 180; rw [← HCV.out]; refine (share_any h k y c _ (HK.out _ HB3.out) HCk.out HY.out).mono ?_; rintro e w4 ⟨rfl, hb4⟩; have HB4 := Lib.hid (below_two HB3.out hb4); clear hb4)
                    | (go_at_call 181; refine (goodText_any c.text _).mono ?_; rintro e w4 ⟨rfl, hw⟩; subst hw; rw [tx]))
                  go_ret
                  exact ⟨ret_int HR.out.symm, HB3.out⟩
              · have t3 : (c.kind == 3) = false := by simp [k3]
                have HR := Lib.hid (show entryE (ndAt h) c = 0 from by rw [HT4.out, if_neg (fun e => k3 e.1)])
                go_enter Tryz.func124, Tryz.ntmps124
                go_wp2_with (first
                  | (go_at_call 65; refine (has_any h (k : Int) _ (HK.out _ (HBa.out _)) hn).mono ?_; rintro e w2 ⟨rfl, hw⟩; subst hw; rw [hhas])
                  | (go_at_call 178; refine (isDir_any h k y _ (HK.out _ (HBa.out _)) HY.out).mono ?_; rintro e w2 ⟨rfl, hw⟩; subst hw; rw [b1])
                  | (go_at_call 36; refine (good_any c.name _).mono ?_; rintro e w2 ⟨rfl, hb2⟩; rw [g1]; have HB2 := Lib.hid (below_two (HBa.out _) hb2); have HX2 := Lib.hid (box_keep hb2); obtain ⟨q0, q1, q2, q3, q4, q5, q6, q7⟩ := HBx.out _ (box_keep hb2); clear hb2)
                  | (go_at_call 179; refine (hasEntry_any h k y c.name _ (HK.out _ HB2.out) HY.out HYE.out).mono ?_; rintro e w3 ⟨rfl, hb3⟩; rw [e1]; have HB3 := Lib.hid (below_two HB2.out hb3); have HX3 := Lib.hid (box_keep2 HX2.out hb3); obtain ⟨p0, p1, p2, p3, p4, p5, p6, p7⟩ := HBx.out _ (box_keep2 HX2.out hb3); clear hb3)
                  | (go_at_call 180; rw [← HCV.out]; refine (share_any h k y c _ (HK.out _ HB3.out) HCk.out HY.out).mono ?_; rintro e w4 ⟨rfl, hb4⟩; have HB4 := Lib.hid (below_two HB3.out hb4); clear hb4)
                  | (go_at_call 181; refine (goodText_any c.text _).mono ?_; rintro e w4 ⟨rfl, hw⟩; subst hw; rw [tx]))
                go_ret
                exact ⟨ret_int HR.out.symm, HB3.out⟩
    · have b1 : (y.1.kind == 2) = false := by simp [hd]
      have HR := Lib.hid (show entryE (ndAt h) c = 3 from by rw [HT.out, if_neg hd])
      clear hd
      go_enter Tryz.func124, Tryz.ntmps124
      go_wp2_with (first
        | (go_at_call 65; refine (has_any h (k : Int) _ (HK.out _ (HBa.out _)) hn).mono ?_; rintro e w2 ⟨rfl, hw⟩; subst hw; rw [hhas])
        | (go_at_call 178; refine (isDir_any h k y _ (HK.out _ (HBa.out _)) HY.out).mono ?_; rintro e w2 ⟨rfl, hw⟩; subst hw; rw [b1])
        | (go_at_call 36; refine (good_any c.name _).mono ?_; rintro e w2 ⟨rfl, hb2⟩; rw [g1]; have HB2 := Lib.hid (below_two (HBa.out _) hb2); have HX2 := Lib.hid (box_keep hb2); obtain ⟨q0, q1, q2, q3, q4, q5, q6, q7⟩ := HBx.out _ (box_keep hb2); clear hb2)
        | (go_at_call 179; refine (hasEntry_any h k y c.name _ (HK.out _ HB2.out) HY.out HYE.out).mono ?_; rintro e w3 ⟨rfl, hb3⟩; rw [e1]; have HB3 := Lib.hid (below_two HB2.out hb3); have HX3 := Lib.hid (box_keep2 HX2.out hb3); obtain ⟨p0, p1, p2, p3, p4, p5, p6, p7⟩ := HBx.out _ (box_keep2 HX2.out hb3); clear hb3)
        | (go_at_call 180; rw [← HCV.out]; refine (share_any h k y c _ (HK.out _ HB3.out) HCk.out HY.out).mono ?_; rintro e w4 ⟨rfl, hb4⟩; have HB4 := Lib.hid (below_two HB3.out hb4); clear hb4)
        | (go_at_call 181; refine (goodText_any c.text _).mono ?_; rintro e w4 ⟨rfl, hw⟩; subst hw; rw [tx]))
      go_ret
      exact ⟨ret_int HR.out.symm, HBa.out _⟩
end Go.Proofs.YtknfhphhcnbndaaGreatDoor.V
