/-
  What the reference's wrong tells of a change of the kind 7. Conditions: at most 1000000 nodes and entries; what covers a node is none below 0.
-/
import Derived.Test.YtknfhphhcnbndaaGreatDoorGVRefWrN
import Derived.Deep.RegionHeld3
set_option linter.unusedSimpArgs false
set_option linter.unusedVariables false
namespace Go.Proofs.YtknfhphhcnbndaaGreatDoor.V
open List renaming setIfInBounds_toArray → lt, set_cons_zero → l0, set_cons_succ → ls
open Go.RowKit Go.BigFrame

theorem devL_ge : ∀ (M : List Nd) (b : Nat) (x : Int), x ∈ devL M b → (b : Int) ≤ x
  | [], b, x, h => by simp [devL] at h
  | m :: r, b, x, h => by
    rw [devL] at h
    rcases List.mem_append.1 h with q | q
    · split at q
      · have := List.mem_singleton.1 q; omega
      · simp at q
    · have := devL_ge r (b + 1) x q
      omega
theorem devL_mem_at : ∀ (M : List Nd) (b : Nat) (i : Nat) (n : Nd), M[i]? = some n → (((b + i : Nat) : Int) ∈ devL M b ↔ n.ino = 1)
  | [], b, i, n, h => by simp at h
  | m :: r, b, 0, n, h => by
    simp at h
    subst h
    rw [devL]
    constructor
    · intro hm
      rcases List.mem_append.1 hm with q | q
      · split at q
        · assumption
        · simp at q
      · have := devL_ge r (b + 1) _ q
        omega
    · intro e
      rw [if_pos e]
      simp
  | m :: r, b, i + 1, n, h => by
    have h' : r[i]? = some n := by simpa using h
    have ih := devL_mem_at r (b + 1) i n h'
    rw [show b + 1 + i = b + (i + 1) by omega] at ih
    rw [devL, List.mem_append, ← ih]
    constructor
    · rintro (q | q)
      · split at q
        · have := List.mem_singleton.1 q; omega
        · simp at q
      · exact q
    · exact .inr
theorem devL_mem {M : List Nd} {i : Nat} {n : Nd} (h : M[i]? = some n) : ((i : Int) ∈ devL M 0) ↔ n.ino = 1 := by
  have := devL_mem_at M 0 i n h
  rwa [Nat.zero_add] at this

/-- What the region of the kind 7 looks at. -/
structure W7 (W : World) (gn : Nat) (mN cn : Nat) (al : Option Addr) (mL cl gc cc : Nat) (ad : Option Addr) (cd : Nat) (aa : Option Addr) (ca : Nat) (af : Option Addr) (mF cf : Nat) (c : Chg) (j : Nat) (cv : Int) (w : World) : Prop where
  win : WIn W ⟨.slice (some ⟨gn, 0, none⟩) mN cn, .slice al mL cl, .slice (some ⟨gc, 0, none⟩) mN cc, .slice ad mN cd, .slice aa mN ca, .slice af mF cf⟩ c w
  k : w.cell? ⟨W.heap.size + 1, 0, none⟩ = some (.int .i64 7)
  t : w.cell? ⟨W.heap.size + 1, 2, none⟩ = some (.int .i64 (j : Int))
  c : w.cell? ⟨gc, j, none⟩ = some (.int .i64 cv)
  s0 : w.cell? ⟨W.heap.size, 0, none⟩ = some (.slice (some ⟨gn, 0, none⟩) mN cn)
  s1 : w.cell? ⟨W.heap.size, 1, none⟩ = some (.slice al mL cl)
  s2 : w.cell? ⟨W.heap.size, 2, none⟩ = some (.slice (some ⟨gc, 0, none⟩) mN cc)
  s3 : w.cell? ⟨W.heap.size, 3, none⟩ = some (.slice ad mN cd)
  s4 : w.cell? ⟨W.heap.size, 4, none⟩ = some (.slice aa mN ca)
  s5 : w.cell? ⟨W.heap.size, 5, none⟩ = some (.slice af mF cf)
theorem W7.mk2 {M : List Nd} {L : List It} {gn cn : Nat} {al : Option Addr} {cl gc cc : Nat} {ad : Option Addr} {cd : Nat} {aa : Option Addr} {ca : Nat} {af : Option Addr} {cf : Nat} {c : Chg} {j : Nat} {y : Nd} {cv : Int} {W w : World}
    (H : Rs M L ⟨.slice (some ⟨gn, 0, none⟩) M.length cn, .slice al L.length cl, .slice (some ⟨gc, 0, none⟩) M.length cc, .slice ad M.length cd, .slice aa M.length ca, .slice af (devL M 0).length cf⟩ W)
    (h : WIn W ⟨.slice (some ⟨gn, 0, none⟩) M.length cn, .slice al L.length cl, .slice (some ⟨gc, 0, none⟩) M.length cc, .slice ad M.length cd, .slice aa M.length ca, .slice af (devL M 0).length cf⟩ c w) (hk : c.kind = 7) (ht : c.to = (j : Int)) (hy : M[j]? = some y) (hc : cov j y = cv) :
    W7 W gn M.length cn al L.length cl gc cc ad cd aa ca af (devL M 0).length cf c j cv w := by
  obtain ⟨q0, q1, q2, q3, q4, q5, q6, q7⟩ := chg_cells h.chg
  obtain ⟨s0, s1, s2, s3, s4, s5⟩ := h.cells
  rw [hk] at q0
  rw [ht] at q2
  exact ⟨h, q0, q2, by rw [← hc]; exact (H.keep h.below).cov_cell hy, s0, s1, s2, s3, s4, s5⟩

set_option maxRecDepth 100000 in
set_option maxHeartbeats 40000000 in
theorem wr7_any (M : List Nd) (L : List It) (v : Rv) (c : Chg) (w : World) (H : Rs M L v w) (hM : M.length ≤ 1000000) (hn : 0 < M.length) (hk : c.kind = 7) (hV : ∀ y ∈ M, 0 ≤ y.over) :
    Calls Tryz.prog 87 #[rvV v, chgV c] w fun e w' => e = .returned (.int .i64 (wrongM M c)) ∧ Below w.heap.size w w' := by
  have k4 : 4 ≤ c.kind := by omega
  have k8 : c.kind ≤ 8 := by omega
  have HHk := Lib.hid hk
  clear hk
  have HH := Lib.hid H
  obtain ⟨gn, cn, al, cl, gc, cc, ad, cd, aa, ca, af, cf, rfl⟩ := H.at_ hn
  clear H
  have HE0 := Lib.hid (wrong_hi (M := M) k4 k8)
  have b0 : decide (c.kind < 0) = false := decide_eq_false (by omega)
  have b8 : decide (8 < c.kind) = false := decide_eq_false (by omega)
  have b4 : decide (c.kind < 4) = false := decide_eq_false (by omega)
  have b5 : decide (4 ≤ c.kind) = true := decide_eq_true (by omega)
  have b6 : decide (c.kind < 2) = false := decide_eq_false (by omega)
  have e1 : (c.kind == 1) = false := beq_eq_false_iff_ne.2 (by omega)
  have e2 : (c.kind == 2) = false := beq_eq_false_iff_ne.2 (by omega)
  have e3 : (c.kind == 3) = false := beq_eq_false_iff_ne.2 (by omega)
  have HW := Lib.hid (WIn.begin w ⟨.slice (some ⟨gn, 0, none⟩) M.length cn, .slice al L.length cl, .slice (some ⟨gc, 0, none⟩) M.length cc, .slice ad M.length cd, .slice aa M.length ca, .slice af (devL M 0).length cf⟩ c)
  unfold rvV chgV
  go_enter Tryz.func87, Tryz.ntmps87
  go_upto_region 1 with fail
  have hw := HW.out
  unfold chgBox at hw
  generalize hw2 : (w.alloc (.cells #[.slice (some ⟨gn, 0, none⟩) M.length cn, .slice al L.length cl, .slice (some ⟨gc, 0, none⟩) M.length cc, .slice ad M.length cd, .slice aa M.length ca, .slice af (devL M 0).length cf] 31)).alloc (.cells #[.int .i64 c.kind, .int .i64 c.at_, .int .i64 c.to, .string c.name, .string c.text, .int .i64 c.a, .int .i64 c.b, .int .i64 c.n] 89) = w2 at hw
  clear hw2
  have HIn0 := Lib.hid hw
  obtain ⟨q0, q1, q2, q3, q4, q5, q6, q7⟩ := chg_cells hw.chg
  obtain ⟨s0, s1, s2, s3, s4, s5⟩ := hw.cells
  clear hw HW
  cases hto : atM M c.to with
  | none =>
    have hno := Lib.hid (atM_none_dec hto)
    have HA := Lib.hid (show wrongM M c = 2 by rw [HE0.out]; unfold nodeE; rw [hto]; rfl)
    clear hto hV k4 k8
    go_wp2_with fail
    refine (refHas_any M L _ c.to _ (HH.out.keep HIn0.out.below)).mono ?_
    rintro e w3 ⟨rfl, hb3⟩
    rw [hno.out]
    have HB3 := Lib.hid (below_two HIn0.out.below hb3)
    clear hb3
    go_wp2_with fail
    go_ret
    exact ⟨ret_int HA.out.symm, HB3.out⟩
  | some y =>
    have hyes := Lib.hid (atM_some_dec hto)
    obtain ⟨j, hj, hy⟩ := atM_some hto
    have HJ := Lib.hid hj
    have HY := Lib.hid hy
    have hjl : j < M.length := (List.getElem?_eq_some_iff.1 hy).1
    have HN := Lib.hid (show nodeE (atM M) c = if c.kind = 6 ∧ (c.a < 0 ∨ 3 ≤ c.a) then 1 else if c.kind = 7 then (if y.kind = 2 then (if y.over ≠ c.to ∨ y.ino = 1 then 1 else 0) else 3) else 0 by unfold nodeE; rw [hto])
    have HV := Lib.hid (hV y (List.mem_of_getElem? hy))
    have K4 := Lib.hid k4
    have K8 := Lib.hid k8
    rw [hj] at q2
    clear hto hy hj hV k4 k8
    go_wp2_with fail
    refine (refHas_any M L _ (j : Int) _ (HH.out.keep HIn0.out.below)).mono ?_
    rintro e w3 ⟨rfl, hb3⟩
    have hyes2 := hyes.out
    rw [HJ.out] at hyes2
    rw [hyes2]
    have hin3 := HIn0.out.keep hb3
    clear hb3 HIn0 q0 q1 q2 q3 q4 q5 q6 q7 s0 s1 s2 s3 s4 s5 hyes2
    obtain ⟨q0, q1, q2, q3, q4, q5, q6, q7⟩ := chg_cells hin3.chg
    obtain ⟨s0, s1, s2, s3, s4, s5⟩ := hin3.cells
    rw [HJ.out] at q2
    have m2 : w3.cell? ⟨gn, j * 13 + 2, none⟩ = some (.int .i64 y.kind) := (HH.out.keep hin3.below).node_cell HY.out (by omega) rfl
    have HIn := Lib.hid hin3
    clear hin3
    have hkk := HHk.out
    rw [hkk] at q0
    clear e1 e2 e3 b0 b8 b4 b5 b6
    have c2 : w3.cell? ⟨gc, j, none⟩ = some (.int .i64 (cov j y)) := (HH.out.keep HIn.out.below).cov_cell HY.out
    obtain ⟨cv, hcv⟩ : ∃ cv, cov j y = cv := ⟨_, rfl⟩
    rw [hcv] at c2
    have HCv := Lib.hid hcv
    clear hcv
    by_cases hk2 : y.kind = 2
    · have t2 : (y.kind != 2) = false := by simp [hk2]
      by_cases hc0 : 0 ≤ cv
      · have d0 : decide (0 ≤ cv) = true := decide_eq_true hc0
        have HA := Lib.hid (show wrongM M c = 1 by
          have : y.over ≠ c.to := fun e => by
            have := HCv.out
            unfold cov at this
            rw [if_pos (by rw [e, HJ.out])] at this
            omega
          have hN : nodeE (atM M) c = 1 := by rw [HN.out, if_neg (show ¬ (c.kind = 6 ∧ (c.a < 0 ∨ 3 ≤ c.a)) by omega), if_pos hkk, if_pos hk2, if_pos (Or.inl this)]
          rw [HE0.out, hN]; rfl)
        clear hkk hk2 hc0
        as_aux_lemma =>
          go_upto_region 19 with fail
          try simp only [List.append]
          go_big_quiet (fail)
          go_wp2_with fail
          go_ret
          exact ⟨ret_int HA.out.symm, below_drewN' HIn.out.below⟩
      · have d0 : decide (0 ≤ cv) = false := decide_eq_false hc0
        have hov : y.over = c.to := by
          have := HCv.out
          unfold cov at this
          split at this
          · rw [HJ.out]; assumption
          · have := HV.out; omega
        have HF := Lib.hid (show decide ((j : Int) ∈ devL M 0) = decide (y.ino = 1) from decide_eq_decide.2 (devL_mem HY.out))
        obtain ⟨fb, hfb⟩ : ∃ fb, decide (y.ino = 1) = fb := ⟨_, rfl⟩
        have H5 := Lib.hid (fun (wx : World) (h : W7 w gn M.length cn al L.length cl gc cc ad cd aa ca af (devL M 0).length cf c j cv wx) => show Calls Tryz.prog 145 #[.agg #[.slice (some ⟨gn, 0, none⟩) M.length cn, .slice al L.length cl, .slice (some ⟨gc, 0, none⟩) M.length cc, .slice ad M.length cd, .slice aa M.length ca, .slice af (devL M 0).length cf], .int .i64 (j : Int)] wx (fun e w' => e = .returned (.bool fb) ∧ W7 w gn M.length cn al L.length cl gc cc ad cd aa ca af (devL M 0).length cf c j cv w') from
          (first_any M L ⟨.slice (some ⟨gn, 0, none⟩) M.length cn, .slice al L.length cl, .slice (some ⟨gc, 0, none⟩) M.length cc, .slice ad M.length cd, .slice aa M.length ca, .slice af (devL M 0).length cf⟩ (j : Int) wx (HH.out.keep h.win.below) hM).mono fun e w' ⟨e1, hb⟩ => ⟨by rw [e1, HF.out, hfb], W7.mk2 HH.out (h.win.keep hb) HHk.out HJ.out HY.out HCv.out⟩)
        have HA := Lib.hid (show wrongM M c = if fb = true then 1 else if 300 ≤ M.length then 9 else 0 by
          have hm : makesB c.kind = true := by rw [hkk]; rfl
          rw [HE0.out, hm]
          by_cases hi1 : y.ino = 1
          · have hN : nodeE (atM M) c = 1 := by rw [HN.out, if_neg (show ¬ (c.kind = 6 ∧ (c.a < 0 ∨ 3 ≤ c.a)) by omega), if_pos hkk, if_pos hk2, if_pos (Or.inr hi1)]
            rw [hN, ← hfb, decide_eq_true hi1]; rfl
          · have hN : nodeE (atM M) c = 0 := by rw [HN.out, if_neg (show ¬ (c.kind = 6 ∧ (c.a < 0 ∨ 3 ≤ c.a)) by omega), if_pos hkk, if_pos hk2, if_neg (fun e => e.elim (fun e => e hov) hi1)]
            rw [hN, ← hfb, decide_eq_false hi1]
            by_cases hm3 : 300 ≤ M.length
            · rw [if_pos ⟨rfl, rfl, hm3⟩]; simp [hm3]
            · rw [if_neg (fun e => hm3 e.2.2)]; simp [hm3])
        have h7 := W7.mk2 HH.out HIn.out HHk.out HJ.out HY.out HCv.out
        clear hkk hk2 hc0 hov hfb h7
        as_aux_lemma =>
          go_upto_region 19 with fail
          clear q0 q1 q2 q3 q4 q5 q6 q7 s0 s1 s2 s3 s4 s5 c2 m2
          try simp only [List.append]
          refine wp_region_held_drew (S := W7 w gn M.length cn al L.length cl gc cc ad cd aa ca af (devL M 0).length cf c j cv) (by kernel_rfl) (W7.mk2 HH.out (HIn.out.drewN 1) HHk.out HJ.out HY.out HCv.out) (fun hHeld => ?_)
          refine wpAnyH_take (i := 0) (oi := ⟨some 98, .fieldAddr 89 (.tmp 3) 0, 0, "ref.go:102", #[], none⟩) (v := .pointer (some ⟨(w.heap.size + 1), 0, none⟩)) rfl (by kernel_rfl) (by kernel_rfl) (by kernel_rfl) (fun _ _ _ h => h) (Or.inl ⟨by rfl, fun w0 hS0 => ?_⟩) (by assumption) ?_
          · go_simp
          try simp only [Act.put, lt, l0, ls]
          refine wpAnyH_take (i := 1) (oi := ⟨some 99, .load 3 (.tmp 98), 3, "ref.go:102", #[⟨0, .data⟩], none⟩) (v := .int .i64 7) rfl (by kernel_rfl) (by kernel_rfl) (by kernel_rfl) (fun _ _ _ h => h) (Or.inl ⟨by rfl, fun w0 hS0 => ?_⟩) (by assumption) ?_
          · have c := hS0.k; go_simp
          try simp only [Act.put, lt, l0, ls]
          refine wpAnyH_take (i := 2) (oi := ⟨some 100, .binOp .eql 3 (.tmp 99) (.const (.int .i64 1)) 3, 4, "ref.go:102", #[⟨1, .data⟩], none⟩) (v := .bool false) rfl (by kernel_rfl) (by kernel_rfl) (by kernel_rfl) (fun _ _ _ h => h) (Or.inl ⟨by rfl, fun w0 hS0 => ?_⟩) (by assumption) ?_
          · go_simp
          try simp only [Act.put, lt, l0, ls]
          refine wpAnyH_take (i := 3) (oi := ⟨some 101, .move (.tmp 100), 4, "ref.go:102", #[⟨2, .data⟩], none⟩) (v := .bool false) rfl (by kernel_rfl) (by kernel_rfl) (by kernel_rfl) (fun _ _ _ h => h) (Or.inl ⟨by rfl, fun w0 hS0 => ?_⟩) (by assumption) ?_
          · go_simp
          try simp only [Act.put, lt, l0, ls]
          refine wpAnyH_take (i := 4) (oi := ⟨some 102, .fieldAddr 89 (.tmp 3) 7, 0, "ref.go:102", #[⟨3, .guard⟩], some (3, true)⟩) (v := undef) rfl (by kernel_rfl) (by kernel_rfl) (by kernel_rfl) (fun _ _ _ h => h) (Or.inr ⟨by rfl, rfl⟩) (by assumption) ?_
          try simp only [Act.put, lt, l0, ls]
          refine wpAnyH_take (i := 5) (oi := ⟨some 103, .load 2 (.tmp 102), 2, "ref.go:102", #[⟨4, .data⟩, ⟨3, .guard⟩], some (3, true)⟩) (v := undef) rfl (by kernel_rfl) (by kernel_rfl) (by kernel_rfl) (fun _ _ _ h => h) (Or.inr ⟨by rfl, rfl⟩) (by assumption) ?_
          try simp only [Act.put, lt, l0, ls]
          refine wpAnyH_take (i := 6) (oi := ⟨some 104, .binOp .lss 2 (.tmp 103) (.const (.int .i64 0)) 2, 4, "ref.go:102", #[⟨5, .data⟩, ⟨3, .guard⟩], some (3, true)⟩) (v := undef) rfl (by kernel_rfl) (by kernel_rfl) (by kernel_rfl) (fun _ _ _ h => h) (Or.inr ⟨by rfl, rfl⟩) (by assumption) ?_
          try simp only [Act.put, lt, l0, ls]
          refine wpAnyH_take (i := 7) (oi := ⟨some 105, .pick (.tmp 101) (.tmp 104) (.const (.bool false)), 4, "ref.go:102", #[⟨3, .data⟩, ⟨6, .data⟩], none⟩) (v := .bool false) rfl (by kernel_rfl) (by kernel_rfl) (by kernel_rfl) (fun _ _ _ h => h) (Or.inl ⟨by rfl, fun w0 hS0 => ?_⟩) (by assumption) ?_
          · go_simp
          try simp only [Act.put, lt, l0, ls]
          refine wpAnyH_take (i := 8) (oi := ⟨some 106, .move (.tmp 105), 4, "ref.go:102", #[⟨7, .data⟩, ⟨3, .chain⟩], none⟩) (v := .bool false) rfl (by kernel_rfl) (by kernel_rfl) (by kernel_rfl) (fun _ _ _ h => h) (Or.inl ⟨by rfl, fun w0 hS0 => ?_⟩) (by assumption) ?_
          · go_simp
          try simp only [Act.put, lt, l0, ls]
          refine wpAnyH_take (i := 9) (oi := ⟨some 107, .fieldAddr 89 (.tmp 3) 0, 0, "ref.go:102", #[⟨8, .guard⟩], some (8, false)⟩) (v := .pointer (some ⟨(w.heap.size + 1), 0, none⟩)) rfl (by kernel_rfl) (by kernel_rfl) (by kernel_rfl) (fun _ _ _ h => h) (Or.inl ⟨by rfl, fun w0 hS0 => ?_⟩) (by assumption) ?_
          · go_simp
          try simp only [Act.put, lt, l0, ls]
          refine wpAnyH_take (i := 10) (oi := ⟨some 108, .load 3 (.tmp 107), 3, "ref.go:102", #[⟨9, .data⟩, ⟨8, .guard⟩], some (8, false)⟩) (v := .int .i64 7) rfl (by kernel_rfl) (by kernel_rfl) (by kernel_rfl) (fun _ _ _ h => h) (Or.inl ⟨by rfl, fun w0 hS0 => ?_⟩) (by assumption) ?_
          · have c := hS0.k; go_simp
          try simp only [Act.put, lt, l0, ls]
          refine wpAnyH_take (i := 11) (oi := ⟨some 109, .binOp .eql 3 (.tmp 108) (.const (.int .i64 2)) 3, 4, "ref.go:102", #[⟨10, .data⟩, ⟨8, .guard⟩], some (8, false)⟩) (v := .bool false) rfl (by kernel_rfl) (by kernel_rfl) (by kernel_rfl) (fun _ _ _ h => h) (Or.inl ⟨by rfl, fun w0 hS0 => ?_⟩) (by assumption) ?_
          · go_simp
          try simp only [Act.put, lt, l0, ls]
          refine wpAnyH_take (i := 12) (oi := ⟨some 110, .move (.tmp 109), 4, "ref.go:102", #[⟨11, .data⟩, ⟨8, .chain⟩, ⟨8, .guard⟩], some (8, false)⟩) (v := .bool false) rfl (by kernel_rfl) (by kernel_rfl) (by kernel_rfl) (fun _ _ _ h => h) (Or.inl ⟨by rfl, fun w0 hS0 => ?_⟩) (by assumption) ?_
          · go_simp
          try simp only [Act.put, lt, l0, ls]
          refine wpAnyH_take (i := 13) (oi := ⟨some 111, .fieldAddr 31 (.tmp 2) 0, 0, "ref.go:102", #[⟨12, .guard⟩], some (12, true)⟩) (v := undef) rfl (by kernel_rfl) (by kernel_rfl) (by kernel_rfl) (fun _ _ _ h => h) (Or.inr ⟨by rfl, rfl⟩) (by assumption) ?_
          try simp only [Act.put, lt, l0, ls]
          refine wpAnyH_take (i := 14) (oi := ⟨some 112, .load 26 (.tmp 111), 26, "ref.go:102", #[⟨13, .data⟩, ⟨12, .guard⟩], some (12, true)⟩) (v := undef) rfl (by kernel_rfl) (by kernel_rfl) (by kernel_rfl) (fun _ _ _ h => h) (Or.inr ⟨by rfl, rfl⟩) (by assumption) ?_
          try simp only [Act.put, lt, l0, ls]
          refine wpAnyH_take (i := 15) (oi := ⟨some 113, .fieldAddr 89 (.tmp 3) 2, 0, "ref.go:102", #[⟨12, .guard⟩], some (12, true)⟩) (v := undef) rfl (by kernel_rfl) (by kernel_rfl) (by kernel_rfl) (fun _ _ _ h => h) (Or.inr ⟨by rfl, rfl⟩) (by assumption) ?_
          try simp only [Act.put, lt, l0, ls]
          refine wpAnyH_take (i := 16) (oi := ⟨some 114, .load 3 (.tmp 113), 3, "ref.go:102", #[⟨15, .data⟩, ⟨12, .guard⟩], some (12, true)⟩) (v := undef) rfl (by kernel_rfl) (by kernel_rfl) (by kernel_rfl) (fun _ _ _ h => h) (Or.inr ⟨by rfl, rfl⟩) (by assumption) ?_
          try simp only [Act.put, lt, l0, ls]
          refine wpAnyH_take (i := 17) (oi := ⟨some 115, .indexAddr 26 (.tmp 112) (.tmp 114), 0, "ref.go:102", #[⟨14, .data⟩, ⟨16, .data⟩, ⟨12, .guard⟩], some (12, true)⟩) (v := undef) rfl (by kernel_rfl) (by kernel_rfl) (by kernel_rfl) (fun _ _ _ h => h) (Or.inr ⟨by rfl, rfl⟩) (by assumption) ?_
          try simp only [Act.put, lt, l0, ls]
          refine wpAnyH_take (i := 18) (oi := ⟨some 116, .fieldAddr 66 (.tmp 115) 2, 0, "ref.go:102", #[⟨17, .data⟩, ⟨12, .guard⟩], some (12, true)⟩) (v := undef) rfl (by kernel_rfl) (by kernel_rfl) (by kernel_rfl) (fun _ _ _ h => h) (Or.inr ⟨by rfl, rfl⟩) (by assumption) ?_
          try simp only [Act.put, lt, l0, ls]
          refine wpAnyH_take (i := 19) (oi := ⟨some 117, .load 3 (.tmp 116), 3, "ref.go:102", #[⟨18, .data⟩, ⟨12, .guard⟩], some (12, true)⟩) (v := undef) rfl (by kernel_rfl) (by kernel_rfl) (by kernel_rfl) (fun _ _ _ h => h) (Or.inr ⟨by rfl, rfl⟩) (by assumption) ?_
          try simp only [Act.put, lt, l0, ls]
          refine wpAnyH_take (i := 20) (oi := ⟨some 118, .binOp .eql 3 (.tmp 117) (.const (.int .i64 2)) 3, 4, "ref.go:102", #[⟨19, .data⟩, ⟨12, .guard⟩], some (12, true)⟩) (v := undef) rfl (by kernel_rfl) (by kernel_rfl) (by kernel_rfl) (fun _ _ _ h => h) (Or.inr ⟨by rfl, rfl⟩) (by assumption) ?_
          try simp only [Act.put, lt, l0, ls]
          refine wpAnyH_take (i := 21) (oi := ⟨some 119, .move (.tmp 118), 4, "ref.go:102", #[⟨20, .data⟩, ⟨12, .chain⟩, ⟨12, .guard⟩], some (12, true)⟩) (v := undef) rfl (by kernel_rfl) (by kernel_rfl) (by kernel_rfl) (fun _ _ _ h => h) (Or.inr ⟨by rfl, rfl⟩) (by assumption) ?_
          try simp only [Act.put, lt, l0, ls]
          refine wpAnyH_take (i := 22) (oi := ⟨some 120, .fieldAddr 31 (.tmp 2) 0, 0, "ref.go:102", #[⟨21, .guard⟩], some (21, false)⟩) (v := undef) rfl (by kernel_rfl) (by kernel_rfl) (by kernel_rfl) (fun _ _ _ h => h) (Or.inr ⟨by rfl, rfl⟩) (by assumption) ?_
          try simp only [Act.put, lt, l0, ls]
          refine wpAnyH_take (i := 23) (oi := ⟨some 121, .load 26 (.tmp 120), 26, "ref.go:102", #[⟨22, .data⟩, ⟨21, .guard⟩], some (21, false)⟩) (v := undef) rfl (by kernel_rfl) (by kernel_rfl) (by kernel_rfl) (fun _ _ _ h => h) (Or.inr ⟨by rfl, rfl⟩) (by assumption) ?_
          try simp only [Act.put, lt, l0, ls]
          refine wpAnyH_take (i := 24) (oi := ⟨some 122, .fieldAddr 89 (.tmp 3) 2, 0, "ref.go:102", #[⟨21, .guard⟩], some (21, false)⟩) (v := undef) rfl (by kernel_rfl) (by kernel_rfl) (by kernel_rfl) (fun _ _ _ h => h) (Or.inr ⟨by rfl, rfl⟩) (by assumption) ?_
          try simp only [Act.put, lt, l0, ls]
          refine wpAnyH_take (i := 25) (oi := ⟨some 123, .load 3 (.tmp 122), 3, "ref.go:102", #[⟨24, .data⟩, ⟨21, .guard⟩], some (21, false)⟩) (v := undef) rfl (by kernel_rfl) (by kernel_rfl) (by kernel_rfl) (fun _ _ _ h => h) (Or.inr ⟨by rfl, rfl⟩) (by assumption) ?_
          try simp only [Act.put, lt, l0, ls]
          refine wpAnyH_take (i := 26) (oi := ⟨some 124, .indexAddr 26 (.tmp 121) (.tmp 123), 0, "ref.go:102", #[⟨23, .data⟩, ⟨25, .data⟩, ⟨21, .guard⟩], some (21, false)⟩) (v := undef) rfl (by kernel_rfl) (by kernel_rfl) (by kernel_rfl) (fun _ _ _ h => h) (Or.inr ⟨by rfl, rfl⟩) (by assumption) ?_
          try simp only [Act.put, lt, l0, ls]
          refine wpAnyH_take (i := 27) (oi := ⟨some 125, .fieldAddr 66 (.tmp 124) 0, 0, "ref.go:102", #[⟨26, .data⟩, ⟨21, .guard⟩], some (21, false)⟩) (v := undef) rfl (by kernel_rfl) (by kernel_rfl) (by kernel_rfl) (fun _ _ _ h => h) (Or.inr ⟨by rfl, rfl⟩) (by assumption) ?_
          try simp only [Act.put, lt, l0, ls]
          refine wpAnyH_take (i := 28) (oi := ⟨some 126, .load 3 (.tmp 125), 3, "ref.go:102", #[⟨27, .data⟩, ⟨21, .guard⟩], some (21, false)⟩) (v := undef) rfl (by kernel_rfl) (by kernel_rfl) (by kernel_rfl) (fun _ _ _ h => h) (Or.inr ⟨by rfl, rfl⟩) (by assumption) ?_
          try simp only [Act.put, lt, l0, ls]
          refine wpAnyH_take (i := 29) (oi := ⟨some 127, .fieldAddr 31 (.tmp 2) 0, 0, "ref.go:102", #[⟨21, .guard⟩], some (21, false)⟩) (v := undef) rfl (by kernel_rfl) (by kernel_rfl) (by kernel_rfl) (fun _ _ _ h => h) (Or.inr ⟨by rfl, rfl⟩) (by assumption) ?_
          try simp only [Act.put, lt, l0, ls]
          refine wpAnyH_take (i := 30) (oi := ⟨some 128, .load 26 (.tmp 127), 26, "ref.go:102", #[⟨29, .data⟩, ⟨21, .guard⟩], some (21, false)⟩) (v := undef) rfl (by kernel_rfl) (by kernel_rfl) (by kernel_rfl) (fun _ _ _ h => h) (Or.inr ⟨by rfl, rfl⟩) (by assumption) ?_
          try simp only [Act.put, lt, l0, ls]
          refine wpAnyH_take (i := 31) (oi := ⟨some 129, .fieldAddr 89 (.tmp 3) 1, 0, "ref.go:102", #[⟨21, .guard⟩], some (21, false)⟩) (v := undef) rfl (by kernel_rfl) (by kernel_rfl) (by kernel_rfl) (fun _ _ _ h => h) (Or.inr ⟨by rfl, rfl⟩) (by assumption) ?_
          try simp only [Act.put, lt, l0, ls]
          refine wpAnyH_take (i := 32) (oi := ⟨some 130, .load 3 (.tmp 129), 3, "ref.go:102", #[⟨31, .data⟩, ⟨21, .guard⟩], some (21, false)⟩) (v := undef) rfl (by kernel_rfl) (by kernel_rfl) (by kernel_rfl) (fun _ _ _ h => h) (Or.inr ⟨by rfl, rfl⟩) (by assumption) ?_
          try simp only [Act.put, lt, l0, ls]
          refine wpAnyH_take (i := 33) (oi := ⟨some 131, .indexAddr 26 (.tmp 128) (.tmp 130), 0, "ref.go:102", #[⟨30, .data⟩, ⟨32, .data⟩, ⟨21, .guard⟩], some (21, false)⟩) (v := undef) rfl (by kernel_rfl) (by kernel_rfl) (by kernel_rfl) (fun _ _ _ h => h) (Or.inr ⟨by rfl, rfl⟩) (by assumption) ?_
          try simp only [Act.put, lt, l0, ls]
          refine wpAnyH_take (i := 34) (oi := ⟨some 132, .fieldAddr 66 (.tmp 131) 0, 0, "ref.go:102", #[⟨33, .data⟩, ⟨21, .guard⟩], some (21, false)⟩) (v := undef) rfl (by kernel_rfl) (by kernel_rfl) (by kernel_rfl) (fun _ _ _ h => h) (Or.inr ⟨by rfl, rfl⟩) (by assumption) ?_
          try simp only [Act.put, lt, l0, ls]
          refine wpAnyH_take (i := 35) (oi := ⟨some 133, .load 3 (.tmp 132), 3, "ref.go:102", #[⟨34, .data⟩, ⟨21, .guard⟩], some (21, false)⟩) (v := undef) rfl (by kernel_rfl) (by kernel_rfl) (by kernel_rfl) (fun _ _ _ h => h) (Or.inr ⟨by rfl, rfl⟩) (by assumption) ?_
          try simp only [Act.put, lt, l0, ls]
          refine wpAnyH_take (i := 36) (oi := ⟨some 134, .binOp .neq 3 (.tmp 126) (.tmp 133) 3, 4, "ref.go:102", #[⟨28, .data⟩, ⟨35, .data⟩, ⟨21, .guard⟩], some (21, false)⟩) (v := undef) rfl (by kernel_rfl) (by kernel_rfl) (by kernel_rfl) (fun _ _ _ h => h) (Or.inr ⟨by rfl, rfl⟩) (by assumption) ?_
          try simp only [Act.put, lt, l0, ls]
          refine wpAnyH_take (i := 37) (oi := ⟨some 135, .pick (.tmp 119) (.const (.bool true)) (.tmp 134), 4, "ref.go:102", #[⟨21, .data⟩, ⟨36, .data⟩, ⟨12, .guard⟩], some (12, true)⟩) (v := undef) rfl (by kernel_rfl) (by kernel_rfl) (by kernel_rfl) (fun _ _ _ h => h) (Or.inr ⟨by rfl, rfl⟩) (by assumption) ?_
          try simp only [Act.put, lt, l0, ls]
          refine wpAnyH_take (i := 38) (oi := ⟨some 136, .pick (.tmp 110) (.tmp 135) (.const (.bool false)), 4, "ref.go:102", #[⟨12, .data⟩, ⟨37, .data⟩, ⟨8, .guard⟩], some (8, false)⟩) (v := .bool false) rfl (by kernel_rfl) (by kernel_rfl) (by kernel_rfl) (fun _ _ _ h => h) (Or.inl ⟨by rfl, fun w0 hS0 => ?_⟩) (by assumption) ?_
          · go_simp
          try simp only [Act.put, lt, l0, ls]
          refine wpAnyH_take (i := 39) (oi := ⟨some 137, .pick (.tmp 106) (.const (.bool true)) (.tmp 136), 4, "ref.go:102", #[⟨8, .data⟩, ⟨38, .data⟩], none⟩) (v := .bool false) rfl (by kernel_rfl) (by kernel_rfl) (by kernel_rfl) (fun _ _ _ h => h) (Or.inl ⟨by rfl, fun w0 hS0 => ?_⟩) (by assumption) ?_
          · go_simp
          try simp only [Act.put, lt, l0, ls]
          refine wpAnyH_take (i := 40) (oi := ⟨some 138, .move (.tmp 137), 4, "ref.go:102", #[⟨39, .data⟩, ⟨21, .chain⟩], none⟩) (v := .bool false) rfl (by kernel_rfl) (by kernel_rfl) (by kernel_rfl) (fun _ _ _ h => h) (Or.inl ⟨by rfl, fun w0 hS0 => ?_⟩) (by assumption) ?_
          · go_simp
          try simp only [Act.put, lt, l0, ls]
          refine wpAnyH_take (i := 41) (oi := ⟨some 139, .fieldAddr 89 (.tmp 3) 0, 0, "ref.go:102", #[⟨40, .guard⟩], some (40, false)⟩) (v := .pointer (some ⟨(w.heap.size + 1), 0, none⟩)) rfl (by kernel_rfl) (by kernel_rfl) (by kernel_rfl) (fun _ _ _ h => h) (Or.inl ⟨by rfl, fun w0 hS0 => ?_⟩) (by assumption) ?_
          · go_simp
          try simp only [Act.put, lt, l0, ls]
          refine wpAnyH_take (i := 42) (oi := ⟨some 140, .load 3 (.tmp 139), 3, "ref.go:102", #[⟨41, .data⟩, ⟨40, .guard⟩], some (40, false)⟩) (v := .int .i64 7) rfl (by kernel_rfl) (by kernel_rfl) (by kernel_rfl) (fun _ _ _ h => h) (Or.inl ⟨by rfl, fun w0 hS0 => ?_⟩) (by assumption) ?_
          · have c := hS0.k; go_simp
          try simp only [Act.put, lt, l0, ls]
          refine wpAnyH_take (i := 43) (oi := ⟨some 141, .binOp .eql 3 (.tmp 140) (.const (.int .i64 6)) 3, 4, "ref.go:102", #[⟨42, .data⟩, ⟨40, .guard⟩], some (40, false)⟩) (v := .bool false) rfl (by kernel_rfl) (by kernel_rfl) (by kernel_rfl) (fun _ _ _ h => h) (Or.inl ⟨by rfl, fun w0 hS0 => ?_⟩) (by assumption) ?_
          · go_simp
          try simp only [Act.put, lt, l0, ls]
          refine wpAnyH_take (i := 44) (oi := ⟨some 142, .move (.tmp 141), 4, "ref.go:102", #[⟨43, .data⟩, ⟨40, .chain⟩, ⟨40, .guard⟩], some (40, false)⟩) (v := .bool false) rfl (by kernel_rfl) (by kernel_rfl) (by kernel_rfl) (fun _ _ _ h => h) (Or.inl ⟨by rfl, fun w0 hS0 => ?_⟩) (by assumption) ?_
          · go_simp
          try simp only [Act.put, lt, l0, ls]
          refine wpAnyH_take (i := 45) (oi := ⟨some 143, .fieldAddr 89 (.tmp 3) 5, 0, "ref.go:102", #[⟨44, .guard⟩], some (44, true)⟩) (v := undef) rfl (by kernel_rfl) (by kernel_rfl) (by kernel_rfl) (fun _ _ _ h => h) (Or.inr ⟨by rfl, rfl⟩) (by assumption) ?_
          try simp only [Act.put, lt, l0, ls]
          refine wpAnyH_take (i := 46) (oi := ⟨some 144, .load 3 (.tmp 143), 3, "ref.go:102", #[⟨45, .data⟩, ⟨44, .guard⟩], some (44, true)⟩) (v := undef) rfl (by kernel_rfl) (by kernel_rfl) (by kernel_rfl) (fun _ _ _ h => h) (Or.inr ⟨by rfl, rfl⟩) (by assumption) ?_
          try simp only [Act.put, lt, l0, ls]
          refine wpAnyH_take (i := 47) (oi := ⟨some 145, .binOp .lss 3 (.tmp 144) (.const (.int .i64 0)) 3, 4, "ref.go:102", #[⟨46, .data⟩, ⟨44, .guard⟩], some (44, true)⟩) (v := undef) rfl (by kernel_rfl) (by kernel_rfl) (by kernel_rfl) (fun _ _ _ h => h) (Or.inr ⟨by rfl, rfl⟩) (by assumption) ?_
          try simp only [Act.put, lt, l0, ls]
          refine wpAnyH_take (i := 48) (oi := ⟨some 146, .move (.tmp 145), 4, "ref.go:102", #[⟨47, .data⟩, ⟨44, .chain⟩, ⟨44, .guard⟩], some (44, true)⟩) (v := undef) rfl (by kernel_rfl) (by kernel_rfl) (by kernel_rfl) (fun _ _ _ h => h) (Or.inr ⟨by rfl, rfl⟩) (by assumption) ?_
          try simp only [Act.put, lt, l0, ls]
          refine wpAnyH_take (i := 49) (oi := ⟨some 147, .fieldAddr 89 (.tmp 3) 5, 0, "ref.go:102", #[⟨48, .guard⟩], some (48, false)⟩) (v := undef) rfl (by kernel_rfl) (by kernel_rfl) (by kernel_rfl) (fun _ _ _ h => h) (Or.inr ⟨by rfl, rfl⟩) (by assumption) ?_
          try simp only [Act.put, lt, l0, ls]
          refine wpAnyH_take (i := 50) (oi := ⟨some 148, .load 3 (.tmp 147), 3, "ref.go:102", #[⟨49, .data⟩, ⟨48, .guard⟩], some (48, false)⟩) (v := undef) rfl (by kernel_rfl) (by kernel_rfl) (by kernel_rfl) (fun _ _ _ h => h) (Or.inr ⟨by rfl, rfl⟩) (by assumption) ?_
          try simp only [Act.put, lt, l0, ls]
          refine wpAnyH_take (i := 51) (oi := ⟨some 149, .binOp .gtr 3 (.tmp 148) (.const (.int .i64 2)) 3, 4, "ref.go:102", #[⟨50, .data⟩, ⟨48, .guard⟩], some (48, false)⟩) (v := undef) rfl (by kernel_rfl) (by kernel_rfl) (by kernel_rfl) (fun _ _ _ h => h) (Or.inr ⟨by rfl, rfl⟩) (by assumption) ?_
          try simp only [Act.put, lt, l0, ls]
          refine wpAnyH_take (i := 52) (oi := ⟨some 150, .pick (.tmp 146) (.const (.bool true)) (.tmp 149), 4, "ref.go:102", #[⟨48, .data⟩, ⟨51, .data⟩, ⟨44, .guard⟩], some (44, true)⟩) (v := undef) rfl (by kernel_rfl) (by kernel_rfl) (by kernel_rfl) (fun _ _ _ h => h) (Or.inr ⟨by rfl, rfl⟩) (by assumption) ?_
          try simp only [Act.put, lt, l0, ls]
          refine wpAnyH_take (i := 53) (oi := ⟨some 151, .pick (.tmp 142) (.tmp 150) (.const (.bool false)), 4, "ref.go:102", #[⟨44, .data⟩, ⟨52, .data⟩, ⟨40, .guard⟩], some (40, false)⟩) (v := .bool false) rfl (by kernel_rfl) (by kernel_rfl) (by kernel_rfl) (fun _ _ _ h => h) (Or.inl ⟨by rfl, fun w0 hS0 => ?_⟩) (by assumption) ?_
          · go_simp
          try simp only [Act.put, lt, l0, ls]
          refine wpAnyH_take (i := 54) (oi := ⟨some 152, .pick (.tmp 138) (.const (.bool true)) (.tmp 151), 4, "ref.go:102", #[⟨40, .data⟩, ⟨53, .data⟩], none⟩) (v := .bool false) rfl (by kernel_rfl) (by kernel_rfl) (by kernel_rfl) (fun _ _ _ h => h) (Or.inl ⟨by rfl, fun w0 hS0 => ?_⟩) (by assumption) ?_
          · go_simp
          try simp only [Act.put, lt, l0, ls]
          refine wpAnyH_take (i := 55) (oi := ⟨some 153, .move (.tmp 152), 4, "ref.go:102", #[⟨54, .data⟩, ⟨48, .chain⟩], none⟩) (v := .bool false) rfl (by kernel_rfl) (by kernel_rfl) (by kernel_rfl) (fun _ _ _ h => h) (Or.inl ⟨by rfl, fun w0 hS0 => ?_⟩) (by assumption) ?_
          · go_simp
          try simp only [Act.put, lt, l0, ls]
          refine wpAnyH_take (i := 56) (oi := ⟨some 154, .fieldAddr 89 (.tmp 3) 0, 0, "ref.go:102", #[⟨55, .guard⟩], some (55, false)⟩) (v := .pointer (some ⟨(w.heap.size + 1), 0, none⟩)) rfl (by kernel_rfl) (by kernel_rfl) (by kernel_rfl) (fun _ _ _ h => h) (Or.inl ⟨by rfl, fun w0 hS0 => ?_⟩) (by assumption) ?_
          · go_simp
          try simp only [Act.put, lt, l0, ls]
          refine wpAnyH_take (i := 57) (oi := ⟨some 155, .load 3 (.tmp 154), 3, "ref.go:102", #[⟨56, .data⟩, ⟨55, .guard⟩], some (55, false)⟩) (v := .int .i64 7) rfl (by kernel_rfl) (by kernel_rfl) (by kernel_rfl) (fun _ _ _ h => h) (Or.inl ⟨by rfl, fun w0 hS0 => ?_⟩) (by assumption) ?_
          · have c := hS0.k; go_simp
          try simp only [Act.put, lt, l0, ls]
          refine wpAnyH_take (i := 58) (oi := ⟨some 156, .binOp .eql 3 (.tmp 155) (.const (.int .i64 7)) 3, 4, "ref.go:102", #[⟨57, .data⟩, ⟨55, .guard⟩], some (55, false)⟩) (v := .bool true) rfl (by kernel_rfl) (by kernel_rfl) (by kernel_rfl) (fun _ _ _ h => h) (Or.inl ⟨by rfl, fun w0 hS0 => ?_⟩) (by assumption) ?_
          · go_simp
          try simp only [Act.put, lt, l0, ls]
          refine wpAnyH_take (i := 59) (oi := ⟨some 157, .move (.tmp 156), 4, "ref.go:102", #[⟨58, .data⟩, ⟨55, .chain⟩, ⟨55, .guard⟩], some (55, false)⟩) (v := .bool true) rfl (by kernel_rfl) (by kernel_rfl) (by kernel_rfl) (fun _ _ _ h => h) (Or.inl ⟨by rfl, fun w0 hS0 => ?_⟩) (by assumption) ?_
          · go_simp
          try simp only [Act.put, lt, l0, ls]
          refine wpAnyH_take (i := 60) (oi := ⟨some 158, .fieldAddr 31 (.tmp 2) 2, 0, "ref.go:102", #[⟨59, .guard⟩], some (59, true)⟩) (v := .pointer (some ⟨w.heap.size, 2, none⟩)) rfl (by kernel_rfl) (by kernel_rfl) (by kernel_rfl) (fun _ _ _ h => h) (Or.inl ⟨by rfl, fun w0 hS0 => ?_⟩) (by assumption) ?_
          · go_simp
          try simp only [Act.put, lt, l0, ls]
          refine wpAnyH_take (i := 61) (oi := ⟨some 159, .load 28 (.tmp 158), 28, "ref.go:102", #[⟨60, .data⟩, ⟨59, .guard⟩], some (59, true)⟩) (v := .slice (some ⟨gc, 0, none⟩) M.length cc) rfl (by kernel_rfl) (by kernel_rfl) (by kernel_rfl) (fun _ _ _ h => h) (Or.inl ⟨by rfl, fun w0 hS0 => ?_⟩) (by assumption) ?_
          · have c := hS0.s2; go_simp
          try simp only [Act.put, lt, l0, ls]
          refine wpAnyH_take (i := 62) (oi := ⟨some 160, .fieldAddr 89 (.tmp 3) 2, 0, "ref.go:102", #[⟨59, .guard⟩], some (59, true)⟩) (v := .pointer (some ⟨(w.heap.size + 1), 2, none⟩)) rfl (by kernel_rfl) (by kernel_rfl) (by kernel_rfl) (fun _ _ _ h => h) (Or.inl ⟨by rfl, fun w0 hS0 => ?_⟩) (by assumption) ?_
          · go_simp
          try simp only [Act.put, lt, l0, ls]
          refine wpAnyH_take (i := 63) (oi := ⟨some 161, .load 3 (.tmp 160), 3, "ref.go:102", #[⟨62, .data⟩, ⟨59, .guard⟩], some (59, true)⟩) (v := .int .i64 ((j : Int))) rfl (by kernel_rfl) (by kernel_rfl) (by kernel_rfl) (fun _ _ _ h => h) (Or.inl ⟨by rfl, fun w0 hS0 => ?_⟩) (by assumption) ?_
          · have c := hS0.t; go_simp
          try simp only [Act.put, lt, l0, ls]
          refine wpAnyH_take (i := 64) (oi := ⟨some 162, .indexAddr 28 (.tmp 159) (.tmp 161), 0, "ref.go:102", #[⟨61, .data⟩, ⟨63, .data⟩, ⟨59, .guard⟩], some (59, true)⟩) (v := .pointer (some ⟨gc, j, none⟩)) rfl (by kernel_rfl) (by kernel_rfl) (by kernel_rfl) (fun _ _ _ h => h) (Or.inl ⟨by rfl, fun w0 hS0 => ?_⟩) (by assumption) ?_
          · go_simp
          try simp only [Act.put, lt, l0, ls]
          refine wpAnyH_take (i := 65) (oi := ⟨some 163, .load 3 (.tmp 162), 3, "ref.go:102", #[⟨64, .data⟩, ⟨59, .guard⟩], some (59, true)⟩) (v := .int .i64 cv) rfl (by kernel_rfl) (by kernel_rfl) (by kernel_rfl) (fun _ _ _ h => h) (Or.inl ⟨by rfl, fun w0 hS0 => ?_⟩) (by assumption) ?_
          · have c := hS0.c; go_simp
          try simp only [Act.put, lt, l0, ls]
          refine wpAnyH_take (i := 66) (oi := ⟨some 164, .binOp .geq 3 (.tmp 163) (.const (.int .i64 0)) 3, 4, "ref.go:102", #[⟨65, .data⟩, ⟨59, .guard⟩], some (59, true)⟩) (v := .bool false) rfl (by kernel_rfl) (by kernel_rfl) (by kernel_rfl) (fun _ _ _ h => h) (Or.inl ⟨by rfl, fun w0 hS0 => ?_⟩) (by assumption) ?_
          · go_simp
          try simp only [Act.put, lt, l0, ls]
          refine wpAnyH_take (i := 67) (oi := ⟨some 165, .move (.tmp 164), 4, "ref.go:102", #[⟨66, .data⟩, ⟨59, .chain⟩, ⟨59, .guard⟩], some (59, true)⟩) (v := .bool false) rfl (by kernel_rfl) (by kernel_rfl) (by kernel_rfl) (fun _ _ _ h => h) (Or.inl ⟨by rfl, fun w0 hS0 => ?_⟩) (by assumption) ?_
          · go_simp
          try simp only [Act.put, lt, l0, ls]
          refine wpAnyH_take (i := 68) (oi := ⟨some 166, .load 31 (.tmp 2), 31, "ref.go:102", #[⟨67, .guard⟩], some (67, false)⟩) (v := .agg #[.slice (some ⟨gn, 0, none⟩) M.length cn, .slice al L.length cl, .slice (some ⟨gc, 0, none⟩) M.length cc, .slice ad M.length cd, .slice aa M.length ca, .slice af (devL M 0).length cf]) rfl (by kernel_rfl) (by kernel_rfl) (by kernel_rfl) (fun _ _ _ h => h) (Or.inl ⟨by rfl, fun w0 hS0 => ?_⟩) (by assumption) ?_
          · have c0 := hS0.s0; have c1 := hS0.s1; have c2 := hS0.s2; have c3 := hS0.s3; have c4 := hS0.s4; have c5 := hS0.s5; go_simp
          try simp only [Act.put, lt, l0, ls]
          refine wpAnyH_take (i := 69) (oi := ⟨some 167, .fieldAddr 89 (.tmp 3) 2, 0, "ref.go:102", #[⟨67, .guard⟩], some (67, false)⟩) (v := .pointer (some ⟨(w.heap.size + 1), 2, none⟩)) rfl (by kernel_rfl) (by kernel_rfl) (by kernel_rfl) (fun _ _ _ h => h) (Or.inl ⟨by rfl, fun w0 hS0 => ?_⟩) (by assumption) ?_
          · go_simp
          try simp only [Act.put, lt, l0, ls]
          refine wpAnyH_take (i := 70) (oi := ⟨some 168, .load 3 (.tmp 167), 3, "ref.go:102", #[⟨69, .data⟩, ⟨67, .guard⟩], some (67, false)⟩) (v := .int .i64 ((j : Int))) rfl (by kernel_rfl) (by kernel_rfl) (by kernel_rfl) (fun _ _ _ h => h) (Or.inl ⟨by rfl, fun w0 hS0 => ?_⟩) (by assumption) ?_
          · have c := hS0.t; go_simp
          try simp only [Act.put, lt, l0, ls]
          refine wpAnyH_ready (rs := [71]) (by kernel_rfl) (by simp) ?_
          refine AllReadyH.cons (o := ⟨some 169, .call ⟨.value (.func 145), #[.tmp 166, .tmp 168], #[31, 3]⟩, 4, "ref.go:102", #[⟨68, .data⟩, ⟨70, .data⟩, ⟨67, .chain⟩, ⟨67, .guard⟩], some (67, false)⟩) rfl (fun K hK => ?_) AllReadyH.nil
          go_simp
          refine (H5.out _ hHeld).mono ?_
          rintro e w3 ⟨rfl, hbn⟩
          go_wp2_with fail
          refine hK.out _ _ hbn (fun hHeld => ?_)
          clear hK K
          try simp only [Act.put, lt, l0, ls]
          refine wpAnyH_take (i := 72) (oi := ⟨some 170, .pick (.tmp 165) (.const (.bool true)) (.tmp 169), 4, "ref.go:102", #[⟨67, .data⟩, ⟨71, .data⟩, ⟨59, .guard⟩], some (59, true)⟩) (v := .bool fb) rfl (by kernel_rfl) (by kernel_rfl) (by kernel_rfl) (fun _ _ _ h => h) (Or.inl ⟨by rfl, fun w0 hS0 => ?_⟩) (by assumption) ?_
          · go_simp
          try simp only [Act.put, lt, l0, ls]
          refine wpAnyH_take (i := 73) (oi := ⟨some 171, .pick (.tmp 157) (.tmp 170) (.const (.bool false)), 4, "ref.go:102", #[⟨59, .data⟩, ⟨72, .data⟩, ⟨55, .guard⟩], some (55, false)⟩) (v := .bool fb) rfl (by kernel_rfl) (by kernel_rfl) (by kernel_rfl) (fun _ _ _ h => h) (Or.inl ⟨by rfl, fun w0 hS0 => ?_⟩) (by assumption) ?_
          · go_simp
          try simp only [Act.put, lt, l0, ls]
          refine wpAnyH_take (i := 74) (oi := ⟨some 172, .pick (.tmp 153) (.const (.bool true)) (.tmp 171), 4, "ref.go:102", #[⟨55, .data⟩, ⟨73, .data⟩], none⟩) (v := .bool fb) rfl (by kernel_rfl) (by kernel_rfl) (by kernel_rfl) (fun _ _ _ h => h) (Or.inl ⟨by rfl, fun w0 hS0 => ?_⟩) (by assumption) ?_
          · go_simp
          try simp only [Act.put, lt, l0, ls]
          refine wpAnyH_done (by kernel_rfl) ?_ _
          cases fb with
          | true =>
            obtain ⟨q0, q1, q2, q3, q4, q5, q6, q7⟩ := chg_cells hHeld.win.chg
            rw [HHk.out] at q0
            as_aux_lemma =>
              go_wp2_with fail
              go_ret
              exact ⟨ret_int HA.out.symm, hHeld.win.below⟩
          | false =>
            obtain ⟨q0, q1, q2, q3, q4, q5, q6, q7⟩ := chg_cells hHeld.win.chg
            obtain ⟨s0, s1, s2, s3, s4, s5⟩ := hHeld.win.cells
            rw [HHk.out] at q0
            have HWb := Lib.hid hHeld.win.below
            clear hHeld
            by_cases hm : 300 ≤ M.length
            · have dm : decide ((300 : Int) ≤ (M.length : Int)) = true := decide_eq_true (by omega)
              have HA2 := Lib.hid (show wrongM M c = 9 by rw [HA.out, if_neg (by decide), if_pos hm])
              clear hm
              as_aux_lemma =>
                go_wp2_with fail
                go_ret
                exact ⟨ret_int HA2.out.symm, HWb.out⟩
            · have dm : decide ((300 : Int) ≤ (M.length : Int)) = false := decide_eq_false (by omega)
              have HA2 := Lib.hid (show wrongM M c = 0 by rw [HA.out, if_neg (by decide), if_neg hm])
              clear hm
              as_aux_lemma =>
                go_wp2_with fail
                go_ret
                exact ⟨ret_int HA2.out.symm, HWb.out⟩
    · have t2 : (y.kind != 2) = true := by simp [hk2]
      have HA := Lib.hid (show wrongM M c = 3 by rw [HE0.out, HN.out, if_neg (show ¬ (c.kind = 6 ∧ (c.a < 0 ∨ 3 ≤ c.a)) by omega), if_pos hkk, if_neg hk2]; rfl)
      clear hkk hk2
      go_wp2_with fail
      go_ret
      exact ⟨ret_int HA.out.symm, HIn.out.below⟩
end Go.Proofs.YtknfhphhcnbndaaGreatDoor.V
