/-
  What the reference's wrong tells of a change of the kinds 4, 5, 6 and 8, of no kind, and of the kind 7 where it isn't to cover a directory that there is. Conditions: at most 1000000 nodes and entries.
-/
import Derived.Test.YtknfhphhcnbndaaGreatDoorGVRefWrP
set_option linter.unusedSimpArgs false
set_option linter.unusedVariables false
namespace Go.Proofs.YtknfhphhcnbndaaGreatDoor.V
open Go.RowKit Go.BigFrame

theorem wrong_hi {M : List Nd} {c : Chg} (k4 : 4 ≤ c.kind) (k8 : c.kind ≤ 8) : wrongM M c = if nodeE (atM M) c = 0 ∧ makesB c.kind = true ∧ 300 ≤ M.length then 9 else nodeE (atM M) c := by
  have hb : baseE (atM M) c = nodeE (atM M) c := by unfold baseE; rw [if_neg (by omega), if_pos ⟨k4, k8⟩]
  unfold wrongM refuseE
  rw [hb]
theorem wrong_bad {M : List Nd} {c : Chg} (h : c.kind < 0 ∨ 8 < c.kind) : wrongM M c = 1 := by
  have hb : baseE (atM M) c = 1 := by unfold baseE; rw [if_neg (by omega), if_neg (by omega)]
  unfold wrongM refuseE
  rw [hb, if_neg (fun e => absurd e.1 (by decide))]

set_option maxRecDepth 100000 in
set_option maxHeartbeats 40000000 in
theorem wrB_any (M : List Nd) (L : List It) (v : Rv) (c : Chg) (w : World) (H : Rs M L v w) (hn : 0 < M.length) (hk : c.kind < 0 ∨ 8 < c.kind) :
    Calls Tryz.prog 87 #[rvV v, chgV c] w fun e w' => e = .returned (.int .i64 (wrongM M c)) ∧ Below w.heap.size w w' := by
  have HA := Lib.hid (wrong_bad (M := M) hk)
  have HW := Lib.hid (WIn.begin w v c)
  obtain ⟨gn, cn, al, cl, gc, cc, ad, cd, aa, ca, af, cf, rfl⟩ := H.at_ hn
  clear H
  have hw := HW.out
  unfold chgBox at hw
  unfold rvV chgV
  by_cases h0 : c.kind < 0
  · have b0 : decide (c.kind < 0) = true := decide_eq_true h0
    clear h0 hk
    go_enter Tryz.func87, Tryz.ntmps87
    go_wp2_with fail
    go_ret
    exact ⟨ret_int HA.out.symm, hw.below⟩
  · have b0 : decide (c.kind < 0) = false := decide_eq_false h0
    have b8 : decide (8 < c.kind) = true := decide_eq_true (by omega)
    clear h0 hk
    go_enter Tryz.func87, Tryz.ntmps87
    go_wp2_with fail
    go_ret
    exact ⟨ret_int HA.out.symm, hw.below⟩

set_option maxRecDepth 100000 in
set_option maxHeartbeats 40000000 in
theorem wrN_any (M : List Nd) (L : List It) (v : Rv) (c : Chg) (w : World) (H : Rs M L v w) (hM : M.length ≤ 1000000) (hn : 0 < M.length) (k4 : 4 ≤ c.kind) (k8 : c.kind ≤ 8) (h7 : c.kind = 7 → ∀ y, atM M c.to = some y → y.kind ≠ 2) :
    Calls Tryz.prog 87 #[rvV v, chgV c] w fun e w' => e = .returned (.int .i64 (wrongM M c)) ∧ Below w.heap.size w w' := by
  have HH := Lib.hid H
  obtain ⟨gn, cn, al, cl, gc, cc, ad, cd, aa, ca, af, cf, rfl⟩ := H.at_ hn
  clear H
  have HE0 := Lib.hid (wrong_hi (M := M) k4 k8)
  have b0 : decide (c.kind < 0) = false := decide_eq_false (by omega)
  have b8 : decide (8 < c.kind) = false := decide_eq_false (by omega)
  have b4 : decide (c.kind < 4) = false := decide_eq_false (by omega)
  have b5 : decide (4 ≤ c.kind) = true := decide_eq_true (by omega)
  have b6 : decide (c.kind < 2) = false := decide_eq_false (by omega)
  have e1 : (c.kind == 1) = false := beq_eq_false_iff_ne.2 (by omega)
  have e2 : (c.kind == 2) = false := beq_eq_false_iff_ne.2 (by omega)
  have e3 : (c.kind == 3) = false := beq_eq_false_iff_ne.2 (by omega)
  have HW := Lib.hid (WIn.begin w ⟨.slice (some ⟨gn, 0, none⟩) M.length cn, .slice al L.length cl, .slice (some ⟨gc, 0, none⟩) M.length cc, .slice ad M.length cd, .slice aa M.length ca, .slice af (devL M 0).length cf⟩ c)
  unfold rvV chgV
  go_enter Tryz.func87, Tryz.ntmps87
  go_upto_region 1 with fail
  have hw := HW.out
  unfold chgBox at hw
  generalize hw2 : (w.alloc (.cells #[.slice (some ⟨gn, 0, none⟩) M.length cn, .slice al L.length cl, .slice (some ⟨gc, 0, none⟩) M.length cc, .slice ad M.length cd, .slice aa M.length ca, .slice af (devL M 0).length cf] 31)).alloc (.cells #[.int .i64 c.kind, .int .i64 c.at_, .int .i64 c.to, .string c.name, .string c.text, .int .i64 c.a, .int .i64 c.b, .int .i64 c.n] 89) = w2 at hw
  clear hw2
  have HIn0 := Lib.hid hw
  obtain ⟨q0, q1, q2, q3, q4, q5, q6, q7⟩ := chg_cells hw.chg
  obtain ⟨s0, s1, s2, s3, s4, s5⟩ := hw.cells
  clear hw HW
  cases hto : atM M c.to with
  | none =>
    have hno := Lib.hid (atM_none_dec hto)
    have HA := Lib.hid (show wrongM M c = 2 by rw [HE0.out]; unfold nodeE; rw [hto]; rfl)
    clear hto h7 k4 k8
    go_wp2_with fail
    refine (refHas_any M L _ c.to _ (HH.out.keep HIn0.out.below)).mono ?_
    rintro e w3 ⟨rfl, hb3⟩
    rw [hno.out]
    have HB3 := Lib.hid (below_two HIn0.out.below hb3)
    clear hb3
    go_wp2_with fail
    go_ret
    exact ⟨ret_int HA.out.symm, HB3.out⟩
  | some y =>
    have hyes := Lib.hid (atM_some_dec hto)
    obtain ⟨j, hj, hy⟩ := atM_some hto
    have HJ := Lib.hid hj
    have HY := Lib.hid hy
    have hjl : j < M.length := (List.getElem?_eq_some_iff.1 hy).1
    have HN := Lib.hid (show nodeE (atM M) c = if c.kind = 6 ∧ (c.a < 0 ∨ 3 ≤ c.a) then 1 else if c.kind = 7 then (if y.kind = 2 then (if y.over ≠ c.to ∨ y.ino = 1 then 1 else 0) else 3) else 0 by unfold nodeE; rw [hto])
    have H7 := Lib.hid (fun e => h7 e y hto)
    have K4 := Lib.hid k4
    have K8 := Lib.hid k8
    rw [hj] at q2
    clear hto hy hj h7 k4 k8
    go_wp2_with fail
    refine (refHas_any M L _ (j : Int) _ (HH.out.keep HIn0.out.below)).mono ?_
    rintro e w3 ⟨rfl, hb3⟩
    have hyes2 := hyes.out
    rw [HJ.out] at hyes2
    rw [hyes2]
    have hin3 := HIn0.out.keep hb3
    clear hb3 HIn0 q0 q1 q2 q3 q4 q5 q6 q7 s0 s1 s2 s3 s4 s5 hyes2
    obtain ⟨q0, q1, q2, q3, q4, q5, q6, q7⟩ := chg_cells hin3.chg
    obtain ⟨s0, s1, s2, s3, s4, s5⟩ := hin3.cells
    rw [HJ.out] at q2
    have m2 : w3.cell? ⟨gn, j * 13 + 2, none⟩ = some (.int .i64 y.kind) := (HH.out.keep hin3.below).node_cell HY.out (by omega) rfl
    have HIn := Lib.hid hin3
    clear hin3
    by_cases k7 : c.kind = 7
    · have e7 : (c.kind == 7) = true := beq_iff_eq.2 k7
      have t2 : (y.kind != 2) = true := by simp [H7.out k7]
      have HA := Lib.hid (show wrongM M c = 3 by rw [HE0.out, HN.out, if_neg (show ¬ (c.kind = 6 ∧ (c.a < 0 ∨ 3 ≤ c.a)) by omega), if_pos k7, if_neg (H7.out k7)]; rfl)
      clear k7
      go_wp2_with fail
      go_ret
      exact ⟨ret_int HA.out.symm, HIn.out.below⟩
    · have e7 : (c.kind == 7) = false := beq_eq_false_iff_ne.2 k7
      by_cases k6 : c.kind = 6
      · have e6 : (c.kind == 6) = true := beq_iff_eq.2 k6
        have hmk : makesB c.kind = false := by rw [k6]; rfl
        by_cases ha : c.a < 0
        · have d1 : decide (c.a < 0) = true := decide_eq_true ha
          have HA := Lib.hid (show wrongM M c = 1 by rw [HE0.out, HN.out, if_pos (show c.kind = 6 ∧ (c.a < 0 ∨ 3 ≤ c.a) from ⟨k6, .inl ha⟩)]; rfl)
          clear k6 k7 ha hmk
          go_upto_region 19 with fail
          simp only [List.append]
          go_big_quiet (fail)
          go_wp2_with fail
          go_ret
          exact ⟨ret_int HA.out.symm, below_drewN' HIn.out.below⟩
        · have d1 : decide (c.a < 0) = false := decide_eq_false ha
          by_cases hb : 2 < c.a
          · have d2 : decide (2 < c.a) = true := decide_eq_true hb
            have HA := Lib.hid (show wrongM M c = 1 by rw [HE0.out, HN.out, if_pos (show c.kind = 6 ∧ (c.a < 0 ∨ 3 ≤ c.a) from ⟨k6, .inr (by omega)⟩)]; rfl)
            clear k6 k7 ha hb hmk
            go_upto_region 19 with fail
            simp only [List.append]
            go_big_quiet (fail)
            go_wp2_with fail
            go_ret
            exact ⟨ret_int HA.out.symm, below_drewN' HIn.out.below⟩
          · have d2 : decide (2 < c.a) = false := decide_eq_false hb
            have HA := Lib.hid (show wrongM M c = 0 by rw [HE0.out, HN.out, if_neg (show ¬ (c.kind = 6 ∧ (c.a < 0 ∨ 3 ≤ c.a)) by omega), if_neg k7, if_neg (fun e => by rw [hmk] at e; exact absurd e.2.1 (by decide))])
            clear k6 k7 ha hb hmk
            go_upto_region 19 with fail
            simp only [List.append]
            go_big_quiet (fail)
            go_wp2_with fail
            go_ret
            exact ⟨ret_int HA.out.symm, below_drewN' HIn.out.below⟩
      · have e6 : (c.kind == 6) = false := beq_eq_false_iff_ne.2 k6
        have hk := K4.out
        have hk' := K8.out
        have hmk : makesB c.kind = false := by unfold makesB; rw [show (c.kind == 0) = false from beq_eq_false_iff_ne.2 (by omega), e1, e3, e7]; rfl
        have HA := Lib.hid (show wrongM M c = 0 by rw [HE0.out, HN.out, if_neg (show ¬ (c.kind = 6 ∧ (c.a < 0 ∨ 3 ≤ c.a)) from fun e => k6 e.1), if_neg k7, if_neg (fun e => by rw [hmk] at e; exact absurd e.2.1 (by decide))])
        clear k6 k7 hmk hk hk'
        go_upto_region 19 with fail
        simp only [List.append]
        go_big_quiet (fail)
        go_wp2_with fail
        go_ret
        exact ⟨ret_int HA.out.symm, below_drewN' HIn.out.below⟩
end Go.Proofs.YtknfhphhcnbndaaGreatDoor.V
