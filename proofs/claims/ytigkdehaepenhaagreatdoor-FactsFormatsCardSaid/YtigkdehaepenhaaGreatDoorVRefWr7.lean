/-
  What the reference's wrong tells of a change of the kind 7. Conditions: at most 1000000 nodes and entries; what covers a node is none below 0.
-/
import Derived.Test.YtigkdehaepenhaaGreatDoorVRefWrN
import Derived.Deep.RegionHeld3
set_option linter.unusedVariables false
namespace Go.Proofs.YtigkdehaepenhaaGreatDoor.V
open Go.RowKit Go.BigFrame

theorem devL_ge : ∀ (M : List Nd) (b : Nat) (x : Int), x ∈ devL M b → (b : Int) ≤ x
  | [], b, x, h => by simp [devL] at h
  | m :: r, b, x, h => by
    rw [devL] at h
    rcases List.mem_append.1 h with q | q
    · split at q
      · have := List.mem_singleton.1 q; omega
      · simp at q
    · have := devL_ge r (b + 1) x q
      omega
theorem devL_mem_at : ∀ (M : List Nd) (b : Nat) (i : Nat) (n : Nd), M[i]? = some n → (((b + i : Nat) : Int) ∈ devL M b ↔ n.ino = 1)
  | [], b, i, n, h => by simp at h
  | m :: r, b, 0, n, h => by
    simp at h
    subst h
    rw [devL]
    constructor
    · intro hm
      rcases List.mem_append.1 hm with q | q
      · split at q
        · assumption
        · simp at q
      · have := devL_ge r (b + 1) _ q
        omega
    · intro e
      rw [if_pos e]
      simp
  | m :: r, b, i + 1, n, h => by
    have h' : r[i]? = some n := by simpa using h
    have ih := devL_mem_at r (b + 1) i n h'
    rw [show b + 1 + i = b + (i + 1) by omega] at ih
    rw [devL, List.mem_append, ← ih]
    constructor
    · rintro (q | q)
      · split at q
        · have := List.mem_singleton.1 q; omega
        · simp at q
      · exact q
    · exact .inr
theorem devL_mem {M : List Nd} {i : Nat} {n : Nd} (h : M[i]? = some n) : ((i : Int) ∈ devL M 0) ↔ n.ino = 1 := by
  have := devL_mem_at M 0 i n h
  rwa [Nat.zero_add] at this

/-- What the region of the kind 7 looks at. -/
structure W7 (W : World) (gn : Nat) (mN cn : Nat) (al : Option Addr) (mL cl gc cc : Nat) (ad : Option Addr) (cd : Nat) (aa : Option Addr) (ca : Nat) (af : Option Addr) (mF cf : Nat) (c : Chg) (j : Nat) (cv : Int) (w : World) : Prop where
  win : WIn W ⟨.slice (some ⟨gn, 0, none⟩) mN cn, .slice al mL cl, .slice (some ⟨gc, 0, none⟩) mN cc, .slice ad mN cd, .slice aa mN ca, .slice af mF cf⟩ c w
  k : w.cell? ⟨W.heap.size + 1, 0, none⟩ = some (.int .i64 7)
  t : w.cell? ⟨W.heap.size + 1, 2, none⟩ = some (.int .i64 (j : Int))
  c : w.cell? ⟨gc, j, none⟩ = some (.int .i64 cv)
  s0 : w.cell? ⟨W.heap.size, 0, none⟩ = some (.slice (some ⟨gn, 0, none⟩) mN cn)
  s1 : w.cell? ⟨W.heap.size, 1, none⟩ = some (.slice al mL cl)
  s2 : w.cell? ⟨W.heap.size, 2, none⟩ = some (.slice (some ⟨gc, 0, none⟩) mN cc)
  s3 : w.cell? ⟨W.heap.size, 3, none⟩ = some (.slice ad mN cd)
  s4 : w.cell? ⟨W.heap.size, 4, none⟩ = some (.slice aa mN ca)
  s5 : w.cell? ⟨W.heap.size, 5, none⟩ = some (.slice af mF cf)
theorem W7.mk2 {M : List Nd} {L : List It} {gn cn : Nat} {al : Option Addr} {cl gc cc : Nat} {ad : Option Addr} {cd : Nat} {aa : Option Addr} {ca : Nat} {af : Option Addr} {cf : Nat} {c : Chg} {j : Nat} {y : Nd} {cv : Int} {W w : World}
    (H : Rs M L ⟨.slice (some ⟨gn, 0, none⟩) M.length cn, .slice al L.length cl, .slice (some ⟨gc, 0, none⟩) M.length cc, .slice ad M.length cd, .slice aa M.length ca, .slice af (devL M 0).length cf⟩ W)
    (h : WIn W ⟨.slice (some ⟨gn, 0, none⟩) M.length cn, .slice al L.length cl, .slice (some ⟨gc, 0, none⟩) M.length cc, .slice ad M.length cd, .slice aa M.length ca, .slice af (devL M 0).length cf⟩ c w) (hk : c.kind = 7) (ht : c.to = (j : Int)) (hy : M[j]? = some y) (hc : cov j y = cv) :
    W7 W gn M.length cn al L.length cl gc cc ad cd aa ca af (devL M 0).length cf c j cv w := by
  obtain ⟨q0, q1, q2, q3, q4, q5, q6, q7⟩ := chg_cells h.chg
  obtain ⟨s0, s1, s2, s3, s4, s5⟩ := h.cells
  rw [hk] at q0
  rw [ht] at q2
  exact ⟨h, q0, q2, by rw [← hc]; exact (H.keep h.below).cov_cell hy, s0, s1, s2, s3, s4, s5⟩

set_option maxRecDepth 100000 in
set_option maxHeartbeats 40000000 in
theorem wr7_any (M : List Nd) (L : List It) (v : Rv) (c : Chg) (w : World) (H : Rs M L v w) (hM : M.length ≤ 1000000) (hn : 0 < M.length) (hk : c.kind = 7) (hV : ∀ y ∈ M, 0 ≤ y.over) :
    Calls Tryz.prog 41 #[rvV v, chgV c] w fun e w' => e = .returned (.int .i64 (wrongM M c)) ∧ Below w.heap.size w w' := by
  have k4 : 4 ≤ c.kind := by omega
  have k8 : c.kind ≤ 8 := by omega
  have HHk := Lib.hid hk
  clear hk
  have HH := Lib.hid H
  obtain ⟨gn, cn, al, cl, gc, cc, ad, cd, aa, ca, af, cf, rfl⟩ := H.at_ hn
  clear H
  have HE0 := Lib.hid (wrong_hi (M := M) k4 k8)
  have b0 : decide (c.kind < 0) = false := decide_eq_false (by omega)
  have b8 : decide (8 < c.kind) = false := decide_eq_false (by omega)
  have b4 : decide (c.kind < 4) = false := decide_eq_false (by omega)
  have b5 : decide (4 ≤ c.kind) = true := decide_eq_true (by omega)
  have b6 : decide (c.kind < 2) = false := decide_eq_false (by omega)
  have e1 : (c.kind == 1) = false := beq_eq_false_iff_ne.2 (by omega)
  have e2 : (c.kind == 2) = false := beq_eq_false_iff_ne.2 (by omega)
  have e3 : (c.kind == 3) = false := beq_eq_false_iff_ne.2 (by omega)
  have HW := Lib.hid (WIn.begin w ⟨.slice (some ⟨gn, 0, none⟩) M.length cn, .slice al L.length cl, .slice (some ⟨gc, 0, none⟩) M.length cc, .slice ad M.length cd, .slice aa M.length ca, .slice af (devL M 0).length cf⟩ c)
  unfold rvV chgV
  go_enter Tryz.func41, Tryz.ntmps41
  go_upto_region 1 with fail
  have hw := HW.out
  unfold chgBox at hw
  generalize hw2 : (w.alloc (.cells #[.slice (some ⟨gn, 0, none⟩) M.length cn, .slice al L.length cl, .slice (some ⟨gc, 0, none⟩) M.length cc, .slice ad M.length cd, .slice aa M.length ca, .slice af (devL M 0).length cf] 32)).alloc (.cells #[.int .i64 c.kind, .int .i64 c.at_, .int .i64 c.to, .string c.name, .string c.text, .int .i64 c.a, .int .i64 c.b, .int .i64 c.n] 54) = w2 at hw
  clear hw2
  have HIn0 := Lib.hid hw
  obtain ⟨q0, q1, q2, q3, q4, q5, q6, q7⟩ := chg_cells hw.chg
  obtain ⟨s0, s1, s2, s3, s4, s5⟩ := hw.cells
  clear hw HW
  cases hto : atM M c.to with
  | none =>
    have hno := Lib.hid (atM_none_dec hto)
    have HA := Lib.hid (show wrongM M c = 2 by rw [HE0.out]; unfold nodeE; rw [hto]; rfl)
    clear hto hV k4 k8
    go_wp2_with fail
    refine (refHas_any M L _ c.to _ (HH.out.keep HIn0.out.below)).mono ?_
    rintro e w3 ⟨rfl, hb3⟩
    rw [hno.out]
    have HB3 := Lib.hid (below_two HIn0.out.below hb3)
    clear hb3
    go_wp2_with fail
    go_ret
    exact ⟨ret_int HA.out.symm, HB3.out⟩
  | some y =>
    have hyes := Lib.hid (atM_some_dec hto)
    obtain ⟨j, hj, hy⟩ := atM_some hto
    have HJ := Lib.hid hj
    have HY := Lib.hid hy
    have hjl : j < M.length := (List.getElem?_eq_some_iff.1 hy).1
    have HN := Lib.hid (show nodeE (atM M) c = if c.kind = 6 ∧ (c.a < 0 ∨ 3 ≤ c.a) then 1 else if c.kind = 7 then (if y.kind = 2 then (if y.over ≠ c.to ∨ y.ino = 1 then 1 else 0) else 3) else 0 by unfold nodeE; rw [hto])
    have HV := Lib.hid (hV y (List.mem_of_getElem? hy))
    have K4 := Lib.hid k4
    have K8 := Lib.hid k8
    rw [hj] at q2
    clear hto hy hj hV k4 k8
    go_wp2_with fail
    refine (refHas_any M L _ (j : Int) _ (HH.out.keep HIn0.out.below)).mono ?_
    rintro e w3 ⟨rfl, hb3⟩
    have hyes2 := hyes.out
    rw [HJ.out] at hyes2
    rw [hyes2]
    have hin3 := HIn0.out.keep hb3
    clear hb3 HIn0 q0 q1 q2 q3 q4 q5 q6 q7 s0 s1 s2 s3 s4 s5 hyes2
    obtain ⟨q0, q1, q2, q3, q4, q5, q6, q7⟩ := chg_cells hin3.chg
    obtain ⟨s0, s1, s2, s3, s4, s5⟩ := hin3.cells
    rw [HJ.out] at q2
    have m2 : w3.cell? ⟨gn, j * 13 + 2, none⟩ = some (.int .i64 y.kind) := (HH.out.keep hin3.below).node_cell HY.out (by omega) rfl
    have HIn := Lib.hid hin3
    clear hin3
    have hkk := HHk.out
    rw [hkk] at q0
    clear e1 e2 e3 b0 b8 b4 b5 b6
    have c2 : w3.cell? ⟨gc, j, none⟩ = some (.int .i64 (cov j y)) := (HH.out.keep HIn.out.below).cov_cell HY.out
    obtain ⟨cv, hcv⟩ : ∃ cv, cov j y = cv := ⟨_, rfl⟩
    rw [hcv] at c2
    have HCv := Lib.hid hcv
    clear hcv
    by_cases hk2 : y.kind = 2
    · have t2 : (y.kind != 2) = false := by simp [hk2]
      by_cases hc0 : 0 ≤ cv
      · have d0 : decide (0 ≤ cv) = true := decide_eq_true hc0
        have HA := Lib.hid (show wrongM M c = 1 by
          have : y.over ≠ c.to := fun e => by
            have := HCv.out
            unfold cov at this
            rw [if_pos (by rw [e, HJ.out])] at this
            omega
          have hN : nodeE (atM M) c = 1 := by rw [HN.out, if_neg (show ¬ (c.kind = 6 ∧ (c.a < 0 ∨ 3 ≤ c.a)) by omega), if_pos hkk, if_pos hk2, if_pos (Or.inl this)]
          rw [HE0.out, hN]; rfl)
        clear hkk hk2 hc0
        as_aux_lemma =>
          go_upto_region 19 with fail
          try simp only [List.append]
          go_big_quiet (fail)
          go_wp2_with fail
          go_ret
          exact ⟨ret_int HA.out.symm, below_drewN' HIn.out.below⟩
      · have d0 : decide (0 ≤ cv) = false := decide_eq_false hc0
        have hov : y.over = c.to := by
          have := HCv.out
          unfold cov at this
          split at this
          · rw [HJ.out]; assumption
          · have := HV.out; omega
        have HF := Lib.hid (show decide ((j : Int) ∈ devL M 0) = decide (y.ino = 1) from decide_eq_decide.2 (devL_mem HY.out))
        obtain ⟨fb, hfb⟩ : ∃ fb, decide (y.ino = 1) = fb := ⟨_, rfl⟩
        have H5 := Lib.hid (fun (wx : World) (h : W7 w gn M.length cn al L.length cl gc cc ad cd aa ca af (devL M 0).length cf c j cv wx) => show Calls Tryz.prog 78 #[.agg #[.slice (some ⟨gn, 0, none⟩) M.length cn, .slice al L.length cl, .slice (some ⟨gc, 0, none⟩) M.length cc, .slice ad M.length cd, .slice aa M.length ca, .slice af (devL M 0).length cf], .int .i64 (j : Int)] wx (fun e w' => e = .returned (.bool fb) ∧ W7 w gn M.length cn al L.length cl gc cc ad cd aa ca af (devL M 0).length cf c j cv w') from
          (first_any M L ⟨.slice (some ⟨gn, 0, none⟩) M.length cn, .slice al L.length cl, .slice (some ⟨gc, 0, none⟩) M.length cc, .slice ad M.length cd, .slice aa M.length ca, .slice af (devL M 0).length cf⟩ (j : Int) wx (HH.out.keep h.win.below) hM).mono fun e w' ⟨e1, hb⟩ => ⟨by rw [e1, HF.out, hfb], W7.mk2 HH.out (h.win.keep hb) HHk.out HJ.out HY.out HCv.out⟩)
        have HA := Lib.hid (show wrongM M c = if fb = true then 1 else if 300 ≤ M.length then 9 else 0 by
          have hm : makesB c.kind = true := by rw [hkk]; rfl
          rw [HE0.out, hm]
          by_cases hi1 : y.ino = 1
          · have hN : nodeE (atM M) c = 1 := by rw [HN.out, if_neg (show ¬ (c.kind = 6 ∧ (c.a < 0 ∨ 3 ≤ c.a)) by omega), if_pos hkk, if_pos hk2, if_pos (Or.inr hi1)]
            rw [hN, ← hfb, decide_eq_true hi1]; rfl
          · have hN : nodeE (atM M) c = 0 := by rw [HN.out, if_neg (show ¬ (c.kind = 6 ∧ (c.a < 0 ∨ 3 ≤ c.a)) by omega), if_pos hkk, if_pos hk2, if_neg (fun e => e.elim (fun e => e hov) hi1)]
            rw [hN, ← hfb, decide_eq_false hi1]
            by_cases hm3 : 300 ≤ M.length
            · rw [if_pos ⟨rfl, rfl, hm3⟩]; simp [hm3]
            · rw [if_neg (fun e => hm3 e.2.2)]; simp [hm3])
        have h7 := W7.mk2 HH.out HIn.out HHk.out HJ.out HY.out HCv.out
        clear hkk hk2 hc0 hov hfb h7
        as_aux_lemma =>
          go_upto_region 19 with fail
          clear q0 q1 q2 q3 q4 q5 q6 q7 s0 s1 s2 s3 s4 s5 c2 m2
          try simp only [List.append]
          refine wp_region_held_drew (S := W7 w gn M.length cn al L.length cl gc cc ad cd aa ca af (devL M 0).length cf c j cv) (by kernel_rfl) (W7.mk2 HH.out (HIn.out.drewN 1) HHk.out HJ.out HY.out HCv.out) (fun hHeld => ?_)
          refine wpAnyH_take (i := 0) (oi := { dst := some 98, op := Op.fieldAddr 54 (Operand.tmp 3) 0, type := 0, pos := "ref.go:102", after := #[], guard := none }) (v := .pointer (some ⟨(w.heap.size + 1), 0, none⟩)) rfl (by kernel_rfl) (by kernel_rfl) (by kernel_rfl) (fun _ _ _ h => h) (Or.inl ⟨by rfl, fun w0 hS0 => ?_⟩) (by assumption) ?_
          · go_simp
          try simp only [Act.put, List.setIfInBounds_toArray, List.set_cons_zero, List.set_cons_succ]
          refine wpAnyH_take (i := 1) (oi := { dst := some 99, op := Op.load 3 (Operand.tmp 98), type := 3, pos := "ref.go:102", after := #[{ on := 0, ground := Ground.data }], guard := none }) (v := .int .i64 7) rfl (by kernel_rfl) (by kernel_rfl) (by kernel_rfl) (fun _ _ _ h => h) (Or.inl ⟨by rfl, fun w0 hS0 => ?_⟩) (by assumption) ?_
          · have c := hS0.k; go_simp
          try simp only [Act.put, List.setIfInBounds_toArray, List.set_cons_zero, List.set_cons_succ]
          refine wpAnyH_take (i := 2) (oi := { dst := some 100, op := Op.binOp BinOp.eql 3 (Operand.tmp 99) (Operand.const (Value.int IntKind.i64 1)) 3, type := 4, pos := "ref.go:102", after := #[{ on := 1, ground := Ground.data }], guard := none }) (v := .bool false) rfl (by kernel_rfl) (by kernel_rfl) (by kernel_rfl) (fun _ _ _ h => h) (Or.inl ⟨by rfl, fun w0 hS0 => ?_⟩) (by assumption) ?_
          · go_simp
          try simp only [Act.put, List.setIfInBounds_toArray, List.set_cons_zero, List.set_cons_succ]
          refine wpAnyH_take (i := 3) (oi := { dst := some 101, op := Op.move (Operand.tmp 100), type := 4, pos := "ref.go:102", after := #[{ on := 2, ground := Ground.data }], guard := none }) (v := .bool false) rfl (by kernel_rfl) (by kernel_rfl) (by kernel_rfl) (fun _ _ _ h => h) (Or.inl ⟨by rfl, fun w0 hS0 => ?_⟩) (by assumption) ?_
          · go_simp
          try simp only [Act.put, List.setIfInBounds_toArray, List.set_cons_zero, List.set_cons_succ]
          refine wpAnyH_take (i := 4) (oi := { dst := some 102, op := Op.fieldAddr 54 (Operand.tmp 3) 7, type := 0, pos := "ref.go:102", after := #[{ on := 3, ground := Ground.guard }], guard := some (3, true) }) (v := undef) rfl (by kernel_rfl) (by kernel_rfl) (by kernel_rfl) (fun _ _ _ h => h) (Or.inr ⟨by rfl, rfl⟩) (by assumption) ?_
          try simp only [Act.put, List.setIfInBounds_toArray, List.set_cons_zero, List.set_cons_succ]
          refine wpAnyH_take (i := 5) (oi := { dst := some 103, op := Op.load 2 (Operand.tmp 102), type := 2, pos := "ref.go:102", after := #[{ on := 4, ground := Ground.data }, { on := 3, ground := Ground.guard }], guard := some (3, true) }) (v := undef) rfl (by kernel_rfl) (by kernel_rfl) (by kernel_rfl) (fun _ _ _ h => h) (Or.inr ⟨by rfl, rfl⟩) (by assumption) ?_
          try simp only [Act.put, List.setIfInBounds_toArray, List.set_cons_zero, List.set_cons_succ]
          refine wpAnyH_take (i := 6) (oi := { dst := some 104, op := Op.binOp BinOp.lss 2 (Operand.tmp 103) (Operand.const (Value.int IntKind.i64 0)) 2, type := 4, pos := "ref.go:102", after := #[{ on := 5, ground := Ground.data }, { on := 3, ground := Ground.guard }], guard := some (3, true) }) (v := undef) rfl (by kernel_rfl) (by kernel_rfl) (by kernel_rfl) (fun _ _ _ h => h) (Or.inr ⟨by rfl, rfl⟩) (by assumption) ?_
          try simp only [Act.put, List.setIfInBounds_toArray, List.set_cons_zero, List.set_cons_succ]
          refine wpAnyH_take (i := 7) (oi := { dst := some 105, op := Op.pick (Operand.tmp 101) (Operand.tmp 104) (Operand.const (Value.bool false)), type := 4, pos := "ref.go:102", after := #[{ on := 3, ground := Ground.data }, { on := 6, ground := Ground.data }], guard := none }) (v := .bool false) rfl (by kernel_rfl) (by kernel_rfl) (by kernel_rfl) (fun _ _ _ h => h) (Or.inl ⟨by rfl, fun w0 hS0 => ?_⟩) (by assumption) ?_
          · go_simp
          try simp only [Act.put, List.setIfInBounds_toArray, List.set_cons_zero, List.set_cons_succ]
          refine wpAnyH_take (i := 8) (oi := { dst := some 106, op := Op.move (Operand.tmp 105), type := 4, pos := "ref.go:102", after := #[{ on := 7, ground := Ground.data }, { on := 3, ground := Ground.chain }], guard := none }) (v := .bool false) rfl (by kernel_rfl) (by kernel_rfl) (by kernel_rfl) (fun _ _ _ h => h) (Or.inl ⟨by rfl, fun w0 hS0 => ?_⟩) (by assumption) ?_
          · go_simp
          try simp only [Act.put, List.setIfInBounds_toArray, List.set_cons_zero, List.set_cons_succ]
          refine wpAnyH_take (i := 9) (oi := { dst := some 107, op := Op.fieldAddr 54 (Operand.tmp 3) 0, type := 0, pos := "ref.go:102", after := #[{ on := 8, ground := Ground.guard }], guard := some (8, false) }) (v := .pointer (some ⟨(w.heap.size + 1), 0, none⟩)) rfl (by kernel_rfl) (by kernel_rfl) (by kernel_rfl) (fun _ _ _ h => h) (Or.inl ⟨by rfl, fun w0 hS0 => ?_⟩) (by assumption) ?_
          · go_simp
          try simp only [Act.put, List.setIfInBounds_toArray, List.set_cons_zero, List.set_cons_succ]
          refine wpAnyH_take (i := 10) (oi := { dst := some 108, op := Op.load 3 (Operand.tmp 107), type := 3, pos := "ref.go:102", after := #[{ on := 9, ground := Ground.data }, { on := 8, ground := Ground.guard }], guard := some (8, false) }) (v := .int .i64 7) rfl (by kernel_rfl) (by kernel_rfl) (by kernel_rfl) (fun _ _ _ h => h) (Or.inl ⟨by rfl, fun w0 hS0 => ?_⟩) (by assumption) ?_
          · have c := hS0.k; go_simp
          try simp only [Act.put, List.setIfInBounds_toArray, List.set_cons_zero, List.set_cons_succ]
          refine wpAnyH_take (i := 11) (oi := { dst := some 109, op := Op.binOp BinOp.eql 3 (Operand.tmp 108) (Operand.const (Value.int IntKind.i64 2)) 3, type := 4, pos := "ref.go:102", after := #[{ on := 10, ground := Ground.data }, { on := 8, ground := Ground.guard }], guard := some (8, false) }) (v := .bool false) rfl (by kernel_rfl) (by kernel_rfl) (by kernel_rfl) (fun _ _ _ h => h) (Or.inl ⟨by rfl, fun w0 hS0 => ?_⟩) (by assumption) ?_
          · go_simp
          try simp only [Act.put, List.setIfInBounds_toArray, List.set_cons_zero, List.set_cons_succ]
          refine wpAnyH_take (i := 12) (oi := { dst := some 110, op := Op.move (Operand.tmp 109), type := 4, pos := "ref.go:102", after := #[{ on := 11, ground := Ground.data }, { on := 8, ground := Ground.chain }, { on := 8, ground := Ground.guard }], guard := some (8, false) }) (v := .bool false) rfl (by kernel_rfl) (by kernel_rfl) (by kernel_rfl) (fun _ _ _ h => h) (Or.inl ⟨by rfl, fun w0 hS0 => ?_⟩) (by assumption) ?_
          · go_simp
          try simp only [Act.put, List.setIfInBounds_toArray, List.set_cons_zero, List.set_cons_succ]
          refine wpAnyH_take (i := 13) (oi := { dst := some 111, op := Op.fieldAddr 32 (Operand.tmp 2) 0, type := 0, pos := "ref.go:102", after := #[{ on := 12, ground := Ground.guard }], guard := some (12, true) }) (v := undef) rfl (by kernel_rfl) (by kernel_rfl) (by kernel_rfl) (fun _ _ _ h => h) (Or.inr ⟨by rfl, rfl⟩) (by assumption) ?_
          try simp only [Act.put, List.setIfInBounds_toArray, List.set_cons_zero, List.set_cons_succ]
          refine wpAnyH_take (i := 14) (oi := { dst := some 112, op := Op.load 27 (Operand.tmp 111), type := 27, pos := "ref.go:102", after := #[{ on := 13, ground := Ground.data }, { on := 12, ground := Ground.guard }], guard := some (12, true) }) (v := undef) rfl (by kernel_rfl) (by kernel_rfl) (by kernel_rfl) (fun _ _ _ h => h) (Or.inr ⟨by rfl, rfl⟩) (by assumption) ?_
          try simp only [Act.put, List.setIfInBounds_toArray, List.set_cons_zero, List.set_cons_succ]
          refine wpAnyH_take (i := 15) (oi := { dst := some 113, op := Op.fieldAddr 54 (Operand.tmp 3) 2, type := 0, pos := "ref.go:102", after := #[{ on := 12, ground := Ground.guard }], guard := some (12, true) }) (v := undef) rfl (by kernel_rfl) (by kernel_rfl) (by kernel_rfl) (fun _ _ _ h => h) (Or.inr ⟨by rfl, rfl⟩) (by assumption) ?_
          try simp only [Act.put, List.setIfInBounds_toArray, List.set_cons_zero, List.set_cons_succ]
          refine wpAnyH_take (i := 16) (oi := { dst := some 114, op := Op.load 3 (Operand.tmp 113), type := 3, pos := "ref.go:102", after := #[{ on := 15, ground := Ground.data }, { on := 12, ground := Ground.guard }], guard := some (12, true) }) (v := undef) rfl (by kernel_rfl) (by kernel_rfl) (by kernel_rfl) (fun _ _ _ h => h) (Or.inr ⟨by rfl, rfl⟩) (by assumption) ?_
          try simp only [Act.put, List.setIfInBounds_toArray, List.set_cons_zero, List.set_cons_succ]
          refine wpAnyH_take (i := 17) (oi := { dst := some 115, op := Op.indexAddr 27 (Operand.tmp 112) (Operand.tmp 114), type := 0, pos := "ref.go:102", after := #[{ on := 14, ground := Ground.data }, { on := 16, ground := Ground.data }, { on := 12, ground := Ground.guard }], guard := some (12, true) }) (v := undef) rfl (by kernel_rfl) (by kernel_rfl) (by kernel_rfl) (fun _ _ _ h => h) (Or.inr ⟨by rfl, rfl⟩) (by assumption) ?_
          try simp only [Act.put, List.setIfInBounds_toArray, List.set_cons_zero, List.set_cons_succ]
          refine wpAnyH_take (i := 18) (oi := { dst := some 116, op := Op.fieldAddr 62 (Operand.tmp 115) 2, type := 0, pos := "ref.go:102", after := #[{ on := 17, ground := Ground.data }, { on := 12, ground := Ground.guard }], guard := some (12, true) }) (v := undef) rfl (by kernel_rfl) (by kernel_rfl) (by kernel_rfl) (fun _ _ _ h => h) (Or.inr ⟨by rfl, rfl⟩) (by assumption) ?_
          try simp only [Act.put, List.setIfInBounds_toArray, List.set_cons_zero, List.set_cons_succ]
          refine wpAnyH_take (i := 19) (oi := { dst := some 117, op := Op.load 3 (Operand.tmp 116), type := 3, pos := "ref.go:102", after := #[{ on := 18, ground := Ground.data }, { on := 12, ground := Ground.guard }], guard := some (12, true) }) (v := undef) rfl (by kernel_rfl) (by kernel_rfl) (by kernel_rfl) (fun _ _ _ h => h) (Or.inr ⟨by rfl, rfl⟩) (by assumption) ?_
          try simp only [Act.put, List.setIfInBounds_toArray, List.set_cons_zero, List.set_cons_succ]
          refine wpAnyH_take (i := 20) (oi := { dst := some 118, op := Op.binOp BinOp.eql 3 (Operand.tmp 117) (Operand.const (Value.int IntKind.i64 2)) 3, type := 4, pos := "ref.go:102", after := #[{ on := 19, ground := Ground.data }, { on := 12, ground := Ground.guard }], guard := some (12, true) }) (v := undef) rfl (by kernel_rfl) (by kernel_rfl) (by kernel_rfl) (fun _ _ _ h => h) (Or.inr ⟨by rfl, rfl⟩) (by assumption) ?_
          try simp only [Act.put, List.setIfInBounds_toArray, List.set_cons_zero, List.set_cons_succ]
          refine wpAnyH_take (i := 21) (oi := { dst := some 119, op := Op.move (Operand.tmp 118), type := 4, pos := "ref.go:102", after := #[{ on := 20, ground := Ground.data }, { on := 12, ground := Ground.chain }, { on := 12, ground := Ground.guard }], guard := some (12, true) }) (v := undef) rfl (by kernel_rfl) (by kernel_rfl) (by kernel_rfl) (fun _ _ _ h => h) (Or.inr ⟨by rfl, rfl⟩) (by assumption) ?_
          try simp only [Act.put, List.setIfInBounds_toArray, List.set_cons_zero, List.set_cons_succ]
          refine wpAnyH_take (i := 22) (oi := { dst := some 120, op := Op.fieldAddr 32 (Operand.tmp 2) 0, type := 0, pos := "ref.go:102", after := #[{ on := 21, ground := Ground.guard }], guard := some (21, false) }) (v := undef) rfl (by kernel_rfl) (by kernel_rfl) (by kernel_rfl) (fun _ _ _ h => h) (Or.inr ⟨by rfl, rfl⟩) (by assumption) ?_
          try simp only [Act.put, List.setIfInBounds_toArray, List.set_cons_zero, List.set_cons_succ]
          refine wpAnyH_take (i := 23) (oi := { dst := some 121, op := Op.load 27 (Operand.tmp 120), type := 27, pos := "ref.go:102", after := #[{ on := 22, ground := Ground.data }, { on := 21, ground := Ground.guard }], guard := some (21, false) }) (v := undef) rfl (by kernel_rfl) (by kernel_rfl) (by kernel_rfl) (fun _ _ _ h => h) (Or.inr ⟨by rfl, rfl⟩) (by assumption) ?_
          try simp only [Act.put, List.setIfInBounds_toArray, List.set_cons_zero, List.set_cons_succ]
          refine wpAnyH_take (i := 24) (oi := { dst := some 122, op := Op.fieldAddr 54 (Operand.tmp 3) 2, type := 0, pos := "ref.go:102", after := #[{ on := 21, ground := Ground.guard }], guard := some (21, false) }) (v := undef) rfl (by kernel_rfl) (by kernel_rfl) (by kernel_rfl) (fun _ _ _ h => h) (Or.inr ⟨by rfl, rfl⟩) (by assumption) ?_
          try simp only [Act.put, List.setIfInBounds_toArray, List.set_cons_zero, List.set_cons_succ]
          refine wpAnyH_take (i := 25) (oi := { dst := some 123, op := Op.load 3 (Operand.tmp 122), type := 3, pos := "ref.go:102", after := #[{ on := 24, ground := Ground.data }, { on := 21, ground := Ground.guard }], guard := some (21, false) }) (v := undef) rfl (by kernel_rfl) (by kernel_rfl) (by kernel_rfl) (fun _ _ _ h => h) (Or.inr ⟨by rfl, rfl⟩) (by assumption) ?_
          try simp only [Act.put, List.setIfInBounds_toArray, List.set_cons_zero, List.set_cons_succ]
          refine wpAnyH_take (i := 26) (oi := { dst := some 124, op := Op.indexAddr 27 (Operand.tmp 121) (Operand.tmp 123), type := 0, pos := "ref.go:102", after := #[{ on := 23, ground := Ground.data }, { on := 25, ground := Ground.data }, { on := 21, ground := Ground.guard }], guard := some (21, false) }) (v := undef) rfl (by kernel_rfl) (by kernel_rfl) (by kernel_rfl) (fun _ _ _ h => h) (Or.inr ⟨by rfl, rfl⟩) (by assumption) ?_
          try simp only [Act.put, List.setIfInBounds_toArray, List.set_cons_zero, List.set_cons_succ]
          refine wpAnyH_take (i := 27) (oi := { dst := some 125, op := Op.fieldAddr 62 (Operand.tmp 124) 0, type := 0, pos := "ref.go:102", after := #[{ on := 26, ground := Ground.data }, { on := 21, ground := Ground.guard }], guard := some (21, false) }) (v := undef) rfl (by kernel_rfl) (by kernel_rfl) (by kernel_rfl) (fun _ _ _ h => h) (Or.inr ⟨by rfl, rfl⟩) (by assumption) ?_
          try simp only [Act.put, List.setIfInBounds_toArray, List.set_cons_zero, List.set_cons_succ]
          refine wpAnyH_take (i := 28) (oi := { dst := some 126, op := Op.load 3 (Operand.tmp 125), type := 3, pos := "ref.go:102", after := #[{ on := 27, ground := Ground.data }, { on := 21, ground := Ground.guard }], guard := some (21, false) }) (v := undef) rfl (by kernel_rfl) (by kernel_rfl) (by kernel_rfl) (fun _ _ _ h => h) (Or.inr ⟨by rfl, rfl⟩) (by assumption) ?_
          try simp only [Act.put, List.setIfInBounds_toArray, List.set_cons_zero, List.set_cons_succ]
          refine wpAnyH_take (i := 29) (oi := { dst := some 127, op := Op.fieldAddr 32 (Operand.tmp 2) 0, type := 0, pos := "ref.go:102", after := #[{ on := 21, ground := Ground.guard }], guard := some (21, false) }) (v := undef) rfl (by kernel_rfl) (by kernel_rfl) (by kernel_rfl) (fun _ _ _ h => h) (Or.inr ⟨by rfl, rfl⟩) (by assumption) ?_
          try simp only [Act.put, List.setIfInBounds_toArray, List.set_cons_zero, List.set_cons_succ]
          refine wpAnyH_take (i := 30) (oi := { dst := some 128, op := Op.load 27 (Operand.tmp 127), type := 27, pos := "ref.go:102", after := #[{ on := 29, ground := Ground.data }, { on := 21, ground := Ground.guard }], guard := some (21, false) }) (v := undef) rfl (by kernel_rfl) (by kernel_rfl) (by kernel_rfl) (fun _ _ _ h => h) (Or.inr ⟨by rfl, rfl⟩) (by assumption) ?_
          try simp only [Act.put, List.setIfInBounds_toArray, List.set_cons_zero, List.set_cons_succ]
          refine wpAnyH_take (i := 31) (oi := { dst := some 129, op := Op.fieldAddr 54 (Operand.tmp 3) 1, type := 0, pos := "ref.go:102", after := #[{ on := 21, ground := Ground.guard }], guard := some (21, false) }) (v := undef) rfl (by kernel_rfl) (by kernel_rfl) (by kernel_rfl) (fun _ _ _ h => h) (Or.inr ⟨by rfl, rfl⟩) (by assumption) ?_
          try simp only [Act.put, List.setIfInBounds_toArray, List.set_cons_zero, List.set_cons_succ]
          refine wpAnyH_take (i := 32) (oi := { dst := some 130, op := Op.load 3 (Operand.tmp 129), type := 3, pos := "ref.go:102", after := #[{ on := 31, ground := Ground.data }, { on := 21, ground := Ground.guard }], guard := some (21, false) }) (v := undef) rfl (by kernel_rfl) (by kernel_rfl) (by kernel_rfl) (fun _ _ _ h => h) (Or.inr ⟨by rfl, rfl⟩) (by assumption) ?_
          try simp only [Act.put, List.setIfInBounds_toArray, List.set_cons_zero, List.set_cons_succ]
          refine wpAnyH_take (i := 33) (oi := { dst := some 131, op := Op.indexAddr 27 (Operand.tmp 128) (Operand.tmp 130), type := 0, pos := "ref.go:102", after := #[{ on := 30, ground := Ground.data }, { on := 32, ground := Ground.data }, { on := 21, ground := Ground.guard }], guard := some (21, false) }) (v := undef) rfl (by kernel_rfl) (by kernel_rfl) (by kernel_rfl) (fun _ _ _ h => h) (Or.inr ⟨by rfl, rfl⟩) (by assumption) ?_
          try simp only [Act.put, List.setIfInBounds_toArray, List.set_cons_zero, List.set_cons_succ]
          refine wpAnyH_take (i := 34) (oi := { dst := some 132, op := Op.fieldAddr 62 (Operand.tmp 131) 0, type := 0, pos := "ref.go:102", after := #[{ on := 33, ground := Ground.data }, { on := 21, ground := Ground.guard }], guard := some (21, false) }) (v := undef) rfl (by kernel_rfl) (by kernel_rfl) (by kernel_rfl) (fun _ _ _ h => h) (Or.inr ⟨by rfl, rfl⟩) (by assumption) ?_
          try simp only [Act.put, List.setIfInBounds_toArray, List.set_cons_zero, List.set_cons_succ]
          refine wpAnyH_take (i := 35) (oi := { dst := some 133, op := Op.load 3 (Operand.tmp 132), type := 3, pos := "ref.go:102", after := #[{ on := 34, ground := Ground.data }, { on := 21, ground := Ground.guard }], guard := some (21, false) }) (v := undef) rfl (by kernel_rfl) (by kernel_rfl) (by kernel_rfl) (fun _ _ _ h => h) (Or.inr ⟨by rfl, rfl⟩) (by assumption) ?_
          try simp only [Act.put, List.setIfInBounds_toArray, List.set_cons_zero, List.set_cons_succ]
          refine wpAnyH_take (i := 36) (oi := { dst := some 134, op := Op.binOp BinOp.neq 3 (Operand.tmp 126) (Operand.tmp 133) 3, type := 4, pos := "ref.go:102", after := #[{ on := 28, ground := Ground.data }, { on := 35, ground := Ground.data }, { on := 21, ground := Ground.guard }], guard := some (21, false) }) (v := undef) rfl (by kernel_rfl) (by kernel_rfl) (by kernel_rfl) (fun _ _ _ h => h) (Or.inr ⟨by rfl, rfl⟩) (by assumption) ?_
          try simp only [Act.put, List.setIfInBounds_toArray, List.set_cons_zero, List.set_cons_succ]
          refine wpAnyH_take (i := 37) (oi := { dst := some 135, op := Op.pick (Operand.tmp 119) (Operand.const (Value.bool true)) (Operand.tmp 134), type := 4, pos := "ref.go:102", after := #[{ on := 21, ground := Ground.data }, { on := 36, ground := Ground.data }, { on := 12, ground := Ground.guard }], guard := some (12, true) }) (v := undef) rfl (by kernel_rfl) (by kernel_rfl) (by kernel_rfl) (fun _ _ _ h => h) (Or.inr ⟨by rfl, rfl⟩) (by assumption) ?_
          try simp only [Act.put, List.setIfInBounds_toArray, List.set_cons_zero, List.set_cons_succ]
          refine wpAnyH_take (i := 38) (oi := { dst := some 136, op := Op.pick (Operand.tmp 110) (Operand.tmp 135) (Operand.const (Value.bool false)), type := 4, pos := "ref.go:102", after := #[{ on := 12, ground := Ground.data }, { on := 37, ground := Ground.data }, { on := 8, ground := Ground.guard }], guard := some (8, false) }) (v := .bool false) rfl (by kernel_rfl) (by kernel_rfl) (by kernel_rfl) (fun _ _ _ h => h) (Or.inl ⟨by rfl, fun w0 hS0 => ?_⟩) (by assumption) ?_
          · go_simp
          try simp only [Act.put, List.setIfInBounds_toArray, List.set_cons_zero, List.set_cons_succ]
          refine wpAnyH_take (i := 39) (oi := { dst := some 137, op := Op.pick (Operand.tmp 106) (Operand.const (Value.bool true)) (Operand.tmp 136), type := 4, pos := "ref.go:102", after := #[{ on := 8, ground := Ground.data }, { on := 38, ground := Ground.data }], guard := none }) (v := .bool false) rfl (by kernel_rfl) (by kernel_rfl) (by kernel_rfl) (fun _ _ _ h => h) (Or.inl ⟨by rfl, fun w0 hS0 => ?_⟩) (by assumption) ?_
          · go_simp
          try simp only [Act.put, List.setIfInBounds_toArray, List.set_cons_zero, List.set_cons_succ]
          refine wpAnyH_take (i := 40) (oi := { dst := some 138, op := Op.move (Operand.tmp 137), type := 4, pos := "ref.go:102", after := #[{ on := 39, ground := Ground.data }, { on := 21, ground := Ground.chain }], guard := none }) (v := .bool false) rfl (by kernel_rfl) (by kernel_rfl) (by kernel_rfl) (fun _ _ _ h => h) (Or.inl ⟨by rfl, fun w0 hS0 => ?_⟩) (by assumption) ?_
          · go_simp
          try simp only [Act.put, List.setIfInBounds_toArray, List.set_cons_zero, List.set_cons_succ]
          refine wpAnyH_take (i := 41) (oi := { dst := some 139, op := Op.fieldAddr 54 (Operand.tmp 3) 0, type := 0, pos := "ref.go:102", after := #[{ on := 40, ground := Ground.guard }], guard := some (40, false) }) (v := .pointer (some ⟨(w.heap.size + 1), 0, none⟩)) rfl (by kernel_rfl) (by kernel_rfl) (by kernel_rfl) (fun _ _ _ h => h) (Or.inl ⟨by rfl, fun w0 hS0 => ?_⟩) (by assumption) ?_
          · go_simp
          try simp only [Act.put, List.setIfInBounds_toArray, List.set_cons_zero, List.set_cons_succ]
          refine wpAnyH_take (i := 42) (oi := { dst := some 140, op := Op.load 3 (Operand.tmp 139), type := 3, pos := "ref.go:102", after := #[{ on := 41, ground := Ground.data }, { on := 40, ground := Ground.guard }], guard := some (40, false) }) (v := .int .i64 7) rfl (by kernel_rfl) (by kernel_rfl) (by kernel_rfl) (fun _ _ _ h => h) (Or.inl ⟨by rfl, fun w0 hS0 => ?_⟩) (by assumption) ?_
          · have c := hS0.k; go_simp
          try simp only [Act.put, List.setIfInBounds_toArray, List.set_cons_zero, List.set_cons_succ]
          refine wpAnyH_take (i := 43) (oi := { dst := some 141, op := Op.binOp BinOp.eql 3 (Operand.tmp 140) (Operand.const (Value.int IntKind.i64 6)) 3, type := 4, pos := "ref.go:102", after := #[{ on := 42, ground := Ground.data }, { on := 40, ground := Ground.guard }], guard := some (40, false) }) (v := .bool false) rfl (by kernel_rfl) (by kernel_rfl) (by kernel_rfl) (fun _ _ _ h => h) (Or.inl ⟨by rfl, fun w0 hS0 => ?_⟩) (by assumption) ?_
          · go_simp
          try simp only [Act.put, List.setIfInBounds_toArray, List.set_cons_zero, List.set_cons_succ]
          refine wpAnyH_take (i := 44) (oi := { dst := some 142, op := Op.move (Operand.tmp 141), type := 4, pos := "ref.go:102", after := #[{ on := 43, ground := Ground.data }, { on := 40, ground := Ground.chain }, { on := 40, ground := Ground.guard }], guard := some (40, false) }) (v := .bool false) rfl (by kernel_rfl) (by kernel_rfl) (by kernel_rfl) (fun _ _ _ h => h) (Or.inl ⟨by rfl, fun w0 hS0 => ?_⟩) (by assumption) ?_
          · go_simp
          try simp only [Act.put, List.setIfInBounds_toArray, List.set_cons_zero, List.set_cons_succ]
          refine wpAnyH_take (i := 45) (oi := { dst := some 143, op := Op.fieldAddr 54 (Operand.tmp 3) 5, type := 0, pos := "ref.go:102", after := #[{ on := 44, ground := Ground.guard }], guard := some (44, true) }) (v := undef) rfl (by kernel_rfl) (by kernel_rfl) (by kernel_rfl) (fun _ _ _ h => h) (Or.inr ⟨by rfl, rfl⟩) (by assumption) ?_
          try simp only [Act.put, List.setIfInBounds_toArray, List.set_cons_zero, List.set_cons_succ]
          refine wpAnyH_take (i := 46) (oi := { dst := some 144, op := Op.load 3 (Operand.tmp 143), type := 3, pos := "ref.go:102", after := #[{ on := 45, ground := Ground.data }, { on := 44, ground := Ground.guard }], guard := some (44, true) }) (v := undef) rfl (by kernel_rfl) (by kernel_rfl) (by kernel_rfl) (fun _ _ _ h => h) (Or.inr ⟨by rfl, rfl⟩) (by assumption) ?_
          try simp only [Act.put, List.setIfInBounds_toArray, List.set_cons_zero, List.set_cons_succ]
          refine wpAnyH_take (i := 47) (oi := { dst := some 145, op := Op.binOp BinOp.lss 3 (Operand.tmp 144) (Operand.const (Value.int IntKind.i64 0)) 3, type := 4, pos := "ref.go:102", after := #[{ on := 46, ground := Ground.data }, { on := 44, ground := Ground.guard }], guard := some (44, true) }) (v := undef) rfl (by kernel_rfl) (by kernel_rfl) (by kernel_rfl) (fun _ _ _ h => h) (Or.inr ⟨by rfl, rfl⟩) (by assumption) ?_
          try simp only [Act.put, List.setIfInBounds_toArray, List.set_cons_zero, List.set_cons_succ]
          refine wpAnyH_take (i := 48) (oi := { dst := some 146, op := Op.move (Operand.tmp 145), type := 4, pos := "ref.go:102", after := #[{ on := 47, ground := Ground.data }, { on := 44, ground := Ground.chain }, { on := 44, ground := Ground.guard }], guard := some (44, true) }) (v := undef) rfl (by kernel_rfl) (by kernel_rfl) (by kernel_rfl) (fun _ _ _ h => h) (Or.inr ⟨by rfl, rfl⟩) (by assumption) ?_
          try simp only [Act.put, List.setIfInBounds_toArray, List.set_cons_zero, List.set_cons_succ]
          refine wpAnyH_take (i := 49) (oi := { dst := some 147, op := Op.fieldAddr 54 (Operand.tmp 3) 5, type := 0, pos := "ref.go:102", after := #[{ on := 48, ground := Ground.guard }], guard := some (48, false) }) (v := undef) rfl (by kernel_rfl) (by kernel_rfl) (by kernel_rfl) (fun _ _ _ h => h) (Or.inr ⟨by rfl, rfl⟩) (by assumption) ?_
          try simp only [Act.put, List.setIfInBounds_toArray, List.set_cons_zero, List.set_cons_succ]
          refine wpAnyH_take (i := 50) (oi := { dst := some 148, op := Op.load 3 (Operand.tmp 147), type := 3, pos := "ref.go:102", after := #[{ on := 49, ground := Ground.data }, { on := 48, ground := Ground.guard }], guard := some (48, false) }) (v := undef) rfl (by kernel_rfl) (by kernel_rfl) (by kernel_rfl) (fun _ _ _ h => h) (Or.inr ⟨by rfl, rfl⟩) (by assumption) ?_
          try simp only [Act.put, List.setIfInBounds_toArray, List.set_cons_zero, List.set_cons_succ]
          refine wpAnyH_take (i := 51) (oi := { dst := some 149, op := Op.binOp BinOp.gtr 3 (Operand.tmp 148) (Operand.const (Value.int IntKind.i64 2)) 3, type := 4, pos := "ref.go:102", after := #[{ on := 50, ground := Ground.data }, { on := 48, ground := Ground.guard }], guard := some (48, false) }) (v := undef) rfl (by kernel_rfl) (by kernel_rfl) (by kernel_rfl) (fun _ _ _ h => h) (Or.inr ⟨by rfl, rfl⟩) (by assumption) ?_
          try simp only [Act.put, List.setIfInBounds_toArray, List.set_cons_zero, List.set_cons_succ]
          refine wpAnyH_take (i := 52) (oi := { dst := some 150, op := Op.pick (Operand.tmp 146) (Operand.const (Value.bool true)) (Operand.tmp 149), type := 4, pos := "ref.go:102", after := #[{ on := 48, ground := Ground.data }, { on := 51, ground := Ground.data }, { on := 44, ground := Ground.guard }], guard := some (44, true) }) (v := undef) rfl (by kernel_rfl) (by kernel_rfl) (by kernel_rfl) (fun _ _ _ h => h) (Or.inr ⟨by rfl, rfl⟩) (by assumption) ?_
          try simp only [Act.put, List.setIfInBounds_toArray, List.set_cons_zero, List.set_cons_succ]
          refine wpAnyH_take (i := 53) (oi := { dst := some 151, op := Op.pick (Operand.tmp 142) (Operand.tmp 150) (Operand.const (Value.bool false)), type := 4, pos := "ref.go:102", after := #[{ on := 44, ground := Ground.data }, { on := 52, ground := Ground.data }, { on := 40, ground := Ground.guard }], guard := some (40, false) }) (v := .bool false) rfl (by kernel_rfl) (by kernel_rfl) (by kernel_rfl) (fun _ _ _ h => h) (Or.inl ⟨by rfl, fun w0 hS0 => ?_⟩) (by assumption) ?_
          · go_simp
          try simp only [Act.put, List.setIfInBounds_toArray, List.set_cons_zero, List.set_cons_succ]
          refine wpAnyH_take (i := 54) (oi := { dst := some 152, op := Op.pick (Operand.tmp 138) (Operand.const (Value.bool true)) (Operand.tmp 151), type := 4, pos := "ref.go:102", after := #[{ on := 40, ground := Ground.data }, { on := 53, ground := Ground.data }], guard := none }) (v := .bool false) rfl (by kernel_rfl) (by kernel_rfl) (by kernel_rfl) (fun _ _ _ h => h) (Or.inl ⟨by rfl, fun w0 hS0 => ?_⟩) (by assumption) ?_
          · go_simp
          try simp only [Act.put, List.setIfInBounds_toArray, List.set_cons_zero, List.set_cons_succ]
          refine wpAnyH_take (i := 55) (oi := { dst := some 153, op := Op.move (Operand.tmp 152), type := 4, pos := "ref.go:102", after := #[{ on := 54, ground := Ground.data }, { on := 48, ground := Ground.chain }], guard := none }) (v := .bool false) rfl (by kernel_rfl) (by kernel_rfl) (by kernel_rfl) (fun _ _ _ h => h) (Or.inl ⟨by rfl, fun w0 hS0 => ?_⟩) (by assumption) ?_
          · go_simp
          try simp only [Act.put, List.setIfInBounds_toArray, List.set_cons_zero, List.set_cons_succ]
          refine wpAnyH_take (i := 56) (oi := { dst := some 154, op := Op.fieldAddr 54 (Operand.tmp 3) 0, type := 0, pos := "ref.go:102", after := #[{ on := 55, ground := Ground.guard }], guard := some (55, false) }) (v := .pointer (some ⟨(w.heap.size + 1), 0, none⟩)) rfl (by kernel_rfl) (by kernel_rfl) (by kernel_rfl) (fun _ _ _ h => h) (Or.inl ⟨by rfl, fun w0 hS0 => ?_⟩) (by assumption) ?_
          · go_simp
          try simp only [Act.put, List.setIfInBounds_toArray, List.set_cons_zero, List.set_cons_succ]
          refine wpAnyH_take (i := 57) (oi := { dst := some 155, op := Op.load 3 (Operand.tmp 154), type := 3, pos := "ref.go:102", after := #[{ on := 56, ground := Ground.data }, { on := 55, ground := Ground.guard }], guard := some (55, false) }) (v := .int .i64 7) rfl (by kernel_rfl) (by kernel_rfl) (by kernel_rfl) (fun _ _ _ h => h) (Or.inl ⟨by rfl, fun w0 hS0 => ?_⟩) (by assumption) ?_
          · have c := hS0.k; go_simp
          try simp only [Act.put, List.setIfInBounds_toArray, List.set_cons_zero, List.set_cons_succ]
          refine wpAnyH_take (i := 58) (oi := { dst := some 156, op := Op.binOp BinOp.eql 3 (Operand.tmp 155) (Operand.const (Value.int IntKind.i64 7)) 3, type := 4, pos := "ref.go:102", after := #[{ on := 57, ground := Ground.data }, { on := 55, ground := Ground.guard }], guard := some (55, false) }) (v := .bool true) rfl (by kernel_rfl) (by kernel_rfl) (by kernel_rfl) (fun _ _ _ h => h) (Or.inl ⟨by rfl, fun w0 hS0 => ?_⟩) (by assumption) ?_
          · go_simp
          try simp only [Act.put, List.setIfInBounds_toArray, List.set_cons_zero, List.set_cons_succ]
          refine wpAnyH_take (i := 59) (oi := { dst := some 157, op := Op.move (Operand.tmp 156), type := 4, pos := "ref.go:102", after := #[{ on := 58, ground := Ground.data }, { on := 55, ground := Ground.chain }, { on := 55, ground := Ground.guard }], guard := some (55, false) }) (v := .bool true) rfl (by kernel_rfl) (by kernel_rfl) (by kernel_rfl) (fun _ _ _ h => h) (Or.inl ⟨by rfl, fun w0 hS0 => ?_⟩) (by assumption) ?_
          · go_simp
          try simp only [Act.put, List.setIfInBounds_toArray, List.set_cons_zero, List.set_cons_succ]
          refine wpAnyH_take (i := 60) (oi := { dst := some 158, op := Op.fieldAddr 32 (Operand.tmp 2) 2, type := 0, pos := "ref.go:102", after := #[{ on := 59, ground := Ground.guard }], guard := some (59, true) }) (v := .pointer (some ⟨w.heap.size, 2, none⟩)) rfl (by kernel_rfl) (by kernel_rfl) (by kernel_rfl) (fun _ _ _ h => h) (Or.inl ⟨by rfl, fun w0 hS0 => ?_⟩) (by assumption) ?_
          · go_simp
          try simp only [Act.put, List.setIfInBounds_toArray, List.set_cons_zero, List.set_cons_succ]
          refine wpAnyH_take (i := 61) (oi := { dst := some 159, op := Op.load 29 (Operand.tmp 158), type := 29, pos := "ref.go:102", after := #[{ on := 60, ground := Ground.data }, { on := 59, ground := Ground.guard }], guard := some (59, true) }) (v := .slice (some ⟨gc, 0, none⟩) M.length cc) rfl (by kernel_rfl) (by kernel_rfl) (by kernel_rfl) (fun _ _ _ h => h) (Or.inl ⟨by rfl, fun w0 hS0 => ?_⟩) (by assumption) ?_
          · have c := hS0.s2; go_simp
          try simp only [Act.put, List.setIfInBounds_toArray, List.set_cons_zero, List.set_cons_succ]
          refine wpAnyH_take (i := 62) (oi := { dst := some 160, op := Op.fieldAddr 54 (Operand.tmp 3) 2, type := 0, pos := "ref.go:102", after := #[{ on := 59, ground := Ground.guard }], guard := some (59, true) }) (v := .pointer (some ⟨(w.heap.size + 1), 2, none⟩)) rfl (by kernel_rfl) (by kernel_rfl) (by kernel_rfl) (fun _ _ _ h => h) (Or.inl ⟨by rfl, fun w0 hS0 => ?_⟩) (by assumption) ?_
          · go_simp
          try simp only [Act.put, List.setIfInBounds_toArray, List.set_cons_zero, List.set_cons_succ]
          refine wpAnyH_take (i := 63) (oi := { dst := some 161, op := Op.load 3 (Operand.tmp 160), type := 3, pos := "ref.go:102", after := #[{ on := 62, ground := Ground.data }, { on := 59, ground := Ground.guard }], guard := some (59, true) }) (v := .int .i64 ((j : Int))) rfl (by kernel_rfl) (by kernel_rfl) (by kernel_rfl) (fun _ _ _ h => h) (Or.inl ⟨by rfl, fun w0 hS0 => ?_⟩) (by assumption) ?_
          · have c := hS0.t; go_simp
          try simp only [Act.put, List.setIfInBounds_toArray, List.set_cons_zero, List.set_cons_succ]
          refine wpAnyH_take (i := 64) (oi := { dst := some 162, op := Op.indexAddr 29 (Operand.tmp 159) (Operand.tmp 161), type := 0, pos := "ref.go:102", after := #[{ on := 61, ground := Ground.data }, { on := 63, ground := Ground.data }, { on := 59, ground := Ground.guard }], guard := some (59, true) }) (v := .pointer (some ⟨gc, j, none⟩)) rfl (by kernel_rfl) (by kernel_rfl) (by kernel_rfl) (fun _ _ _ h => h) (Or.inl ⟨by rfl, fun w0 hS0 => ?_⟩) (by assumption) ?_
          · go_simp
          try simp only [Act.put, List.setIfInBounds_toArray, List.set_cons_zero, List.set_cons_succ]
          refine wpAnyH_take (i := 65) (oi := { dst := some 163, op := Op.load 3 (Operand.tmp 162), type := 3, pos := "ref.go:102", after := #[{ on := 64, ground := Ground.data }, { on := 59, ground := Ground.guard }], guard := some (59, true) }) (v := .int .i64 cv) rfl (by kernel_rfl) (by kernel_rfl) (by kernel_rfl) (fun _ _ _ h => h) (Or.inl ⟨by rfl, fun w0 hS0 => ?_⟩) (by assumption) ?_
          · have c := hS0.c; go_simp
          try simp only [Act.put, List.setIfInBounds_toArray, List.set_cons_zero, List.set_cons_succ]
          refine wpAnyH_take (i := 66) (oi := { dst := some 164, op := Op.binOp BinOp.geq 3 (Operand.tmp 163) (Operand.const (Value.int IntKind.i64 0)) 3, type := 4, pos := "ref.go:102", after := #[{ on := 65, ground := Ground.data }, { on := 59, ground := Ground.guard }], guard := some (59, true) }) (v := .bool false) rfl (by kernel_rfl) (by kernel_rfl) (by kernel_rfl) (fun _ _ _ h => h) (Or.inl ⟨by rfl, fun w0 hS0 => ?_⟩) (by assumption) ?_
          · go_simp
          try simp only [Act.put, List.setIfInBounds_toArray, List.set_cons_zero, List.set_cons_succ]
          refine wpAnyH_take (i := 67) (oi := { dst := some 165, op := Op.move (Operand.tmp 164), type := 4, pos := "ref.go:102", after := #[{ on := 66, ground := Ground.data }, { on := 59, ground := Ground.chain }, { on := 59, ground := Ground.guard }], guard := some (59, true) }) (v := .bool false) rfl (by kernel_rfl) (by kernel_rfl) (by kernel_rfl) (fun _ _ _ h => h) (Or.inl ⟨by rfl, fun w0 hS0 => ?_⟩) (by assumption) ?_
          · go_simp
          try simp only [Act.put, List.setIfInBounds_toArray, List.set_cons_zero, List.set_cons_succ]
          refine wpAnyH_take (i := 68) (oi := { dst := some 166, op := Op.load 32 (Operand.tmp 2), type := 32, pos := "ref.go:102", after := #[{ on := 67, ground := Ground.guard }], guard := some (67, false) }) (v := .agg #[.slice (some ⟨gn, 0, none⟩) M.length cn, .slice al L.length cl, .slice (some ⟨gc, 0, none⟩) M.length cc, .slice ad M.length cd, .slice aa M.length ca, .slice af (devL M 0).length cf]) rfl (by kernel_rfl) (by kernel_rfl) (by kernel_rfl) (fun _ _ _ h => h) (Or.inl ⟨by rfl, fun w0 hS0 => ?_⟩) (by assumption) ?_
          · have c0 := hS0.s0; have c1 := hS0.s1; have c2 := hS0.s2; have c3 := hS0.s3; have c4 := hS0.s4; have c5 := hS0.s5; go_simp
          try simp only [Act.put, List.setIfInBounds_toArray, List.set_cons_zero, List.set_cons_succ]
          refine wpAnyH_take (i := 69) (oi := { dst := some 167, op := Op.fieldAddr 54 (Operand.tmp 3) 2, type := 0, pos := "ref.go:102", after := #[{ on := 67, ground := Ground.guard }], guard := some (67, false) }) (v := .pointer (some ⟨(w.heap.size + 1), 2, none⟩)) rfl (by kernel_rfl) (by kernel_rfl) (by kernel_rfl) (fun _ _ _ h => h) (Or.inl ⟨by rfl, fun w0 hS0 => ?_⟩) (by assumption) ?_
          · go_simp
          try simp only [Act.put, List.setIfInBounds_toArray, List.set_cons_zero, List.set_cons_succ]
          refine wpAnyH_take (i := 70) (oi := { dst := some 168, op := Op.load 3 (Operand.tmp 167), type := 3, pos := "ref.go:102", after := #[{ on := 69, ground := Ground.data }, { on := 67, ground := Ground.guard }], guard := some (67, false) }) (v := .int .i64 ((j : Int))) rfl (by kernel_rfl) (by kernel_rfl) (by kernel_rfl) (fun _ _ _ h => h) (Or.inl ⟨by rfl, fun w0 hS0 => ?_⟩) (by assumption) ?_
          · have c := hS0.t; go_simp
          try simp only [Act.put, List.setIfInBounds_toArray, List.set_cons_zero, List.set_cons_succ]
          refine wpAnyH_ready (rs := [71]) (by kernel_rfl) (by simp) ?_
          refine AllReadyH.cons (o := { dst := some 169, op := Op.call { callee := Callee.value (Operand.func 78), args := #[Operand.tmp 166, Operand.tmp 168], argTypes := #[32, 3] }, type := 4, pos := "ref.go:102", after := #[{ on := 68, ground := Ground.data }, { on := 70, ground := Ground.data }, { on := 67, ground := Ground.chain }, { on := 67, ground := Ground.guard }], guard := some (67, false) }) rfl (fun K hK => ?_) AllReadyH.nil
          go_simp
          refine (H5.out _ hHeld).mono ?_
          rintro e w3 ⟨rfl, hbn⟩
          go_wp2_with fail
          refine hK.out _ _ hbn (fun hHeld => ?_)
          clear hK K
          try simp only [Act.put, List.setIfInBounds_toArray, List.set_cons_zero, List.set_cons_succ]
          refine wpAnyH_take (i := 72) (oi := { dst := some 170, op := Op.pick (Operand.tmp 165) (Operand.const (Value.bool true)) (Operand.tmp 169), type := 4, pos := "ref.go:102", after := #[{ on := 67, ground := Ground.data }, { on := 71, ground := Ground.data }, { on := 59, ground := Ground.guard }], guard := some (59, true) }) (v := .bool fb) rfl (by kernel_rfl) (by kernel_rfl) (by kernel_rfl) (fun _ _ _ h => h) (Or.inl ⟨by rfl, fun w0 hS0 => ?_⟩) (by assumption) ?_
          · go_simp
          try simp only [Act.put, List.setIfInBounds_toArray, List.set_cons_zero, List.set_cons_succ]
          refine wpAnyH_take (i := 73) (oi := { dst := some 171, op := Op.pick (Operand.tmp 157) (Operand.tmp 170) (Operand.const (Value.bool false)), type := 4, pos := "ref.go:102", after := #[{ on := 59, ground := Ground.data }, { on := 72, ground := Ground.data }, { on := 55, ground := Ground.guard }], guard := some (55, false) }) (v := .bool fb) rfl (by kernel_rfl) (by kernel_rfl) (by kernel_rfl) (fun _ _ _ h => h) (Or.inl ⟨by rfl, fun w0 hS0 => ?_⟩) (by assumption) ?_
          · go_simp
          try simp only [Act.put, List.setIfInBounds_toArray, List.set_cons_zero, List.set_cons_succ]
          refine wpAnyH_take (i := 74) (oi := { dst := some 172, op := Op.pick (Operand.tmp 153) (Operand.const (Value.bool true)) (Operand.tmp 171), type := 4, pos := "ref.go:102", after := #[{ on := 55, ground := Ground.data }, { on := 73, ground := Ground.data }], guard := none }) (v := .bool fb) rfl (by kernel_rfl) (by kernel_rfl) (by kernel_rfl) (fun _ _ _ h => h) (Or.inl ⟨by rfl, fun w0 hS0 => ?_⟩) (by assumption) ?_
          · go_simp
          try simp only [Act.put, List.setIfInBounds_toArray, List.set_cons_zero, List.set_cons_succ]
          refine wpAnyH_done (by kernel_rfl) ?_ _
          cases fb with
          | true =>
            obtain ⟨q0, q1, q2, q3, q4, q5, q6, q7⟩ := chg_cells hHeld.win.chg
            rw [HHk.out] at q0
            as_aux_lemma =>
              go_wp2_with fail
              go_ret
              exact ⟨ret_int HA.out.symm, hHeld.win.below⟩
          | false =>
            obtain ⟨q0, q1, q2, q3, q4, q5, q6, q7⟩ := chg_cells hHeld.win.chg
            obtain ⟨s0, s1, s2, s3, s4, s5⟩ := hHeld.win.cells
            rw [HHk.out] at q0
            have HWb := Lib.hid hHeld.win.below
            clear hHeld
            by_cases hm : 300 ≤ M.length
            · have dm : decide ((300 : Int) ≤ (M.length : Int)) = true := decide_eq_true (by omega)
              have HA2 := Lib.hid (show wrongM M c = 9 by rw [HA.out, if_neg (by decide), if_pos hm])
              clear hm
              as_aux_lemma =>
                go_wp2_with fail
                go_ret
                exact ⟨ret_int HA2.out.symm, HWb.out⟩
            · have dm : decide ((300 : Int) ≤ (M.length : Int)) = false := decide_eq_false (by omega)
              have HA2 := Lib.hid (show wrongM M c = 0 by rw [HA.out, if_neg (by decide), if_neg hm])
              clear hm
              as_aux_lemma =>
                go_wp2_with fail
                go_ret
                exact ⟨ret_int HA2.out.symm, HWb.out⟩
    · have t2 : (y.kind != 2) = true := by simp [hk2]
      have HA := Lib.hid (show wrongM M c = 3 by rw [HE0.out, HN.out, if_neg (show ¬ (c.kind = 6 ∧ (c.a < 0 ∨ 3 ≤ c.a)) by omega), if_pos hkk, if_neg hk2]; rfl)
      clear hkk hk2
      go_wp2_with fail
      go_ret
      exact ⟨ret_int HA.out.symm, HIn.out.below⟩
end Go.Proofs.YtigkdehaepenhaaGreatDoor.V
