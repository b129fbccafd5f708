/-
  What Alike returns of a file system and the reference's, of the same nodes: true. Conditions: at most 1000000 nodes and entries; the links are counted.
-/
import Derived.Test.YtemjlamgnkjejaaVRefAsk
import Derived.Test.YtemjlamgnkjejaaVMade
import Derived.Test.YtemjlamgnkjejaaVLawS
set_option linter.unusedVariables false
namespace Go.Proofs.Ytemjlamgnkjejaa
open Go.RowKit

section
variable {P : Program} {ops : Array Oper} {Q : Exit → Act → World → Prop} {md : Region.Mode} {S : World → Prop} {z : Nat}
/-- As Till's, where S holds behind every operation. -/
theorem Till.frontA {i : Nat} {oi : Oper} {v : Value} (hi : ops[i]? = some oi) (hsel : ∀ (j : Nat) (o : Oper) cs b, ops[j]? = some o → o.op ≠ .select cs b) (hQ : ∀ c a w, Q (.panic c) (a.put oi.dst v) w → Q (.panic c) a w) (hz : ops[z]? = none) :
    ∀ (n : Nat) (up : Array Bool) (a : Act) (w : World), (∀ j oj, ops[j]? = some oj → j ≠ i → up.getD j true = false → (∀ e ∈ oj.after, Region.binds md e = true → e.on ≠ i) → oi.apart ops oj = true) → i ∈ Region.ready md ops up → YieldsIf P ops S oi v a → S w →
      Till P md ops Q S z n (up.setIfInBounds i true) (a.put oi.dst v) w → Till P md ops Q S z (n + 1) up a w := by
  have one : ∀ {K : Act → World → Prop} {a : Act} {w : World}, YieldsIf P ops S oi v a → S w → K (a.put oi.dst v) w → wpOp P ops Q i K a w := fun hy hS hK => hy.wpOp hi hS hK
  have none : ∀ {up : Array Bool} {C : Prop}, i ∈ Region.ready md ops up → Region.ready md ops up = [] → C := fun hr h => by rw [h] at hr; cases hr
  intro n
  induction n with
  | zero =>
    intro up a w _ hr hy hS T
    refine ⟨none hr, fun j hj => ?_⟩
    rcases Classical.em (j = i) with e | e
    · rw [e]; exact one hy hS ⟨fun _ => hS, T⟩
    · have m := ready_mono (i := i) hj e
      rw [T.1] at m
      cases m
  | succ n ih =>
    intro up a w hfree hr hy hS T
    refine ⟨none hr, fun j hj => ?_⟩
    rcases Classical.em (j = i) with e | e
    · rw [e]; exact one hy hS ⟨fun _ => hS, T⟩
    · obtain ⟨hup, oj, hoj, hall⟩ := mem_ready.1 hj
      have hjz : j ≠ z := fun q => by
        rw [q, hz] at hoj
        cases hoj
      have hun : ∀ d ∈ oj.after, Region.binds md d = true → d.on ≠ i := fun d hd hb q => by
        have h1 := hall d hd hb
        rw [q] at h1
        have h0 := (mem_ready.1 hr).1
        rcases Nat.lt_or_ge i up.size with g | g
        · simp [g] at h0 h1
          rw [h0] at h1
          cases h1
        · simp [Array.getElem?_eq_none g] at h1
      have step := wpOp_putIf hoj (hfree j oj hoj e hup hun) (fun cs b => hsel i oi cs b hi) (fun cs b => hsel j oj cs b hoj) hQ hy (T.2 j (ready_mono hj e))
      refine wpOp_mono (fun a' w' q => ⟨fun _ => q.2.1 hjz, ih _ a' w' (fun k ok hk hki hku hkn => hfree k ok hk hki ?_ hkn) (ready_mono hr (Ne.symm e)) q.1 (q.2.1 hjz) ?_⟩) step
      · rcases Classical.em (j = k) with g | g
        · rw [← g]; exact hup
        · rw [getD_set_ne true g] at hku; exact hku
      · rw [Array.setIfInBounds_comm _ _ e]
        exact q.2.2
theorem Till.takeA {i : Nat} {oi : Oper} {v : Value} {n : Nat} {up : Array Bool} {a : Act} {w : World} (hi : ops[i]? = some oi) (hs : Region.noSelect ops = true) (hf : Region.free md ops up i = true) (hr : (Region.ready md ops up).contains i = true) (hz : ops[z]? = none)
    (hQ : ∀ c a w, Q (.panic c) (a.put oi.dst v) w → Q (.panic c) a w) (hy : YieldsIf P ops S oi v a) (hS : S w) (h : Till P md ops Q S z n (up.setIfInBounds i true) (a.put oi.dst v) w) : Till P md ops Q S z (n + 1) up a w :=
  Till.frontA hi (Region.noSelect_spec hs) hQ hz n up a w (Region.free_spec hi hf) (by simpa using hr) hy hS h
end

set_option maxRecDepth 100000 in
set_option maxHeartbeats 4000000 in
theorem run_neq_known (W : World) (n : Nd) : (binOp .neq 53 (knownV n) (knownV n)).run Try.prog W = .ok (.bool false) W := by
  have h3 := fun W a b c x y z => run_equalIn_arr3 9997 W a b c x y z
  unfold knownV Nd.known
  simp [go_sem, h3]
theorem nodeV_cells (M : List Nd) (i : Int) : ∃ cs : Array Value, nodeV' M i = .agg cs ∧ cs.size = 13 ∧ cs.all (·.oneCell') = true ∧ ∀ n, atM M i = some n → cs = n.known.toArray := by
  unfold nodeV'
  cases h : atM M i with
  | none => exact ⟨zeroCells, rfl, rfl, by kernel_rfl, fun n e => (by cases e)⟩
  | some n => exact ⟨n.known.toArray, rfl, rfl, known_one n, fun m e => by cases e; rfl⟩
theorem nodeCs_known {M : List Nd} {L : List It} {j : Nat} {x : Nd} (H : LInv M) (R : Rel M L) (hx : M[j]? = some x) : nodeCs x ((if x.kind = 2 then 2 else 0) + lcnt (kindsM M) (decide (x.kind = 2)) (j : Int) L) = x.known := by
  rw [← links_counted H R hx]
  rfl

set_option maxRecDepth 100000 in
set_option maxHeartbeats 16000000 in
theorem alikeF_any (w0 : World) (p : Nat) (M : List Nd) (L : List It) (r : Rv) (w : World) (T : Twin w0 p M L r w) (hI : LInv M) (hn : 0 < M.length) (hM : M.length ≤ 1000000) (hL : L.length ≤ 1000000) (hE : FewE M) :
    Calls Try.prog 16 #[.pointer (some ⟨p, 0, none⟩), rvV r] w fun e w' => e = .returned (.bool true) ∧ Below w.heap.size w w' := by
  have HM0 := Lib.hid hn
  have HMl := Lib.hid hM
  have HLl := Lib.hid hL
  have HFE := Lib.hid hE
  have HI := Lib.hid hI
  have HT := Lib.hid T
  have HR := Lib.hid T.rel
  obtain ⟨gn, cn, al, cl, gc, cc, gd, cd, ga, ca, af, cf, rfl⟩ := T.rs.at6 hn
  have HF0 := Lib.hid (FIn.begin w ⟨.slice (some ⟨gn, 0, none⟩) M.length cn, .slice al L.length cl, .slice (some ⟨gc, 0, none⟩) M.length cc, .slice (some ⟨gd, 0, none⟩) M.length cd, .slice (some ⟨ga, 0, none⟩) M.length ca, .slice af (devL M 0).length cf⟩)
  clear T hI hE hn
  unfold rvV
  go_enter Try.func16, Try.ntmps16
  go_upto_region 1 with fail
  have hf := HF0.out
  dsimp only at hf
  generalize w.alloc (.cells #[.slice (some ⟨gn, 0, none⟩) M.length cn, .slice al L.length cl, .slice (some ⟨gc, 0, none⟩) M.length cc, .slice (some ⟨gd, 0, none⟩) M.length cd, .slice (some ⟨ga, 0, none⟩) M.length ca, .slice af (devL M 0).length cf] 37) = w2 at hf ⊢
  have HF := Lib.hid hf
  obtain ⟨s0, s1, s2, s3, s4, s5⟩ := hf.cells
  clear hf HF0
  have HCn := Lib.hid (fun W (hb : Below w2.heap.size w2 W) => has_count (HT.out.keep (below_two HF.out.below hb)).fs HM0.out)
  have b0 : ((M.length : Int) != (M.length : Int)) = false := by simp
  go_quiet (first | (go_at_call 18; refine Calls.quiet_of_same (same_symm (HCn.out _ (below_drewN (Below.refl _ _))))))
  have HF3 := Lib.hid (show FIn w ⟨.slice (some ⟨gn, 0, none⟩) M.length cn, .slice al L.length cl, .slice (some ⟨gc, 0, none⟩) M.length cc, .slice (some ⟨gd, 0, none⟩) M.length cd, .slice (some ⟨ga, 0, none⟩) M.length ca, .slice af (devL M 0).length cf⟩ (w2.drewN nq) from ⟨HF.out.box, below_drewN' HF.out.below⟩)
  clear s0 s1 s2 s3 s4 s5 HCn HF
  generalize w2.drewN nq = w3 at HF3 ⊢
  obtain ⟨s0, s1, s2, s3, s4, s5⟩ := HF3.out.cells
  go_wp2_with fail
  have HFr := Lib.hid (show ∀ W, Below w3.heap.size w3 W → Has w0 p M W from fun W hb => (HT.out.keep (below_two HF3.out.below hb)).fs)
  have HRs := Lib.hid (show ∀ W, Below w3.heap.size w3 W → Rs M L ⟨.slice (some ⟨gn, 0, none⟩) M.length cn, .slice al L.length cl, .slice (some ⟨gc, 0, none⟩) M.length cc, .slice (some ⟨gd, 0, none⟩) M.length cd, .slice (some ⟨ga, 0, none⟩) M.length ca, .slice af (devL M 0).length cf⟩ W from fun W hb => (HT.out.keep (below_two HF3.out.below hb)).rs)
  have HFc := Lib.hid (show ∀ W, Below w3.heap.size w3 W → W.cell? ⟨w.heap.size, 0, none⟩ = some (.slice (some ⟨gn, 0, none⟩) M.length cn) ∧ W.cell? ⟨w.heap.size, 1, none⟩ = some (.slice al L.length cl) ∧ W.cell? ⟨w.heap.size, 2, none⟩ = some (.slice (some ⟨gc, 0, none⟩) M.length cc) ∧ W.cell? ⟨w.heap.size, 3, none⟩ = some (.slice (some ⟨gd, 0, none⟩) M.length cd) ∧ W.cell? ⟨w.heap.size, 4, none⟩ = some (.slice (some ⟨ga, 0, none⟩) M.length ca) ∧ W.cell? ⟨w.heap.size, 5, none⟩ = some (.slice af (devL M 0).length cf) from fun W hb => (HF3.out.keep hb).cells)
  clear s0 s1 s2 s3 s4 s5
  go_loopw [5] (LawSRel M w3) (fun v _ => (M.length + 1 - intOf v).toNat)
  case atStart => exact ⟨0, by omega, rfl, Lib.hid (Below.refl _ _)⟩
  case round =>
    obtain ⟨k, hk, rfl, HBr⟩ := hrel
    obtain ⟨s0, s1, s2, s3, s4, s5⟩ := HFc.out _ HBr.out
    obtain ⟨i, hi⟩ : ∃ i : Int, (k : Int) - 1 = i := ⟨_, rfl⟩
    have hi0 : -1 ≤ i := by omega
    have hi1 : i ≤ (M.length : Int) + 1 := by omega
    have HIk := Lib.hid hi
    rw [hi]
    clear hi
    by_cases hlt : i ≤ (M.length : Int)
    · have d1 : decide (i ≤ (M.length : Int)) = true := decide_eq_true hlt
      obtain ⟨nvC, hnv, hsz, hone, hnk⟩ := nodeV_cells M i
      have HNV := Lib.hid hnv
      have HSZ := Lib.hid hsz
      have HOne := Lib.hid hone
      have HNK := Lib.hid hnk
      clear hnv hsz hone hnk
      go_upto_region 6 with fail
      go_upto_region 7 with (first
        | (go_at_call 19; refine (has_nodeI i (HFr.out _ HBr.out) HM0.out).mono ?_; rintro e w5 ⟨rfl, hb5⟩; rw [HNV.out]; have HB5 := Lib.hid (below_two HBr.out hb5); clear hb5)
        | (refine wpList_store_row rfl 53 (.tmp 6) (.tmp 33) rfl w5.heap.size nvC rfl rfl 53 _ (heap_alloc_new _ _) (by rw [sizeKnown, HSZ.out]) (by rw [HSZ.out]; rfl) HOne.out ?_; rw [World.setRow_alloc_new]))
      have HX6 := Lib.hid (heap_alloc_new w5 (.cells nvC 53))
      have HB6 := Lib.hid (below_two HB5.out ((Below.refl w5.heap.size w5).alloc (Nat.le_refl _) (.cells nvC 53)))
      generalize w5.alloc (.cells nvC 53) = w6 at HX6 HB6 ⊢
      generalize w5.heap.size = nb at HX6 ⊢
      clear HB5 s0 s1 s2 s3 s4 s5
      go_upto_region 8 with (go_at_call 20; refine (has_list i (HFr.out _ HB6.out) HM0.out HFE.out).mono ?_; rintro e w7 ⟨x, rfl, ho, hb⟩; have HO := Lib.hid (owns_lower ho (Nat.zero_le _)); have HB7 := Lib.hid (below_two HB6.out hb); have HX7 := Lib.hid (box_keep2 HX6.out hb); clear hb ho)
      go_upto_region 9 with (go_at_call 21; refine (has_link i (HFr.out _ HB7.out) HM0.out).mono ?_; rintro e wc ⟨rfl, hw⟩; subst hw)
      obtain ⟨s0, s1, s2, s3, s4, s5⟩ := HFc.out _ HB7.out
      go_upto_region 10 with (go_at_call 36; refine (rlist_any M L _ i _ (HRs.out _ HB7.out) HR.out HM0.out HMl.out HLl.out).mono ?_; rintro e w8 ⟨u, rfl, ho, hb⟩; have HU := Lib.hid (owns_lower ho (Nat.zero_le _)); have HO8 := Lib.hid (owns_keep HO.out hb); have HB8 := Lib.hid (below_two HB7.out hb); have HX8 := Lib.hid (box_keep2 HX7.out hb); clear hb ho)
      clear s0 s1 s2 s3 s4 s5 HO HB6 HX6 HX7
      obtain ⟨s0, s1, s2, s3, s4, s5⟩ := HFc.out _ HB8.out
      go_upto_region 11 with (go_at_call 37; refine (rlink_any M L _ i _ (HRs.out _ HB8.out) HR.out HM0.out HMl.out HLl.out).mono ?_; rintro e w9 ⟨rfl, hb⟩; have HU9 := Lib.hid (owns_keep HU.out hb); have HO9 := Lib.hid (owns_keep HO8.out hb); have HB9 := Lib.hid (below_two HB8.out hb); have HX9 := Lib.hid (box_keep2 HX8.out hb); clear hb)
      clear s0 s1 s2 s3 s4 s5 HO8 HU HB8 HX8 HB7
      have HLL := Lib.hid (listL_len (i := i) HFE.out)
      refine Till.region (z := 1000) (S := fun w' => Below w9.heap.size w9 w') (by kernel_rfl) ((Below.refl _ _).drew) (fun hHeld => ?_)
      refine Till.takeA (i := 0) (oi := { dst := some 59, op := Op.move (Operand.tmp 9), type := 39, pos := "law.go:42", after := #[], guard := none }) (v := .int .i64 (listE M i)) rfl (by kernel_rfl) (by kernel_rfl) (by kernel_rfl) (by rfl) (fun _ _ _ h => h) (Or.inl ⟨by rfl, fun w0 hS0 => ?_⟩) (by assumption) ?_
      · go_simp
      try simp only [Act.put, List.setIfInBounds_toArray, List.set_cons_zero, List.set_cons_succ]
      refine Till.takeA (i := 1) (oi := { dst := some 60, op := Op.move (Operand.tmp 13), type := 39, pos := "law.go:42", after := #[], guard := none }) (v := .int .i64 (listE M i)) rfl (by kernel_rfl) (by kernel_rfl) (by kernel_rfl) (by rfl) (fun _ _ _ h => h) (Or.inl ⟨by rfl, fun w0 hS0 => ?_⟩) (by assumption) ?_
      · go_simp
      try simp only [Act.put, List.setIfInBounds_toArray, List.set_cons_zero, List.set_cons_succ]
      refine Till.takeA (i := 2) (oi := { dst := some 61, op := Op.binOp BinOp.neq 39 (Operand.tmp 59) (Operand.tmp 60) 39, type := 4, pos := "law.go:42", after := #[{ on := 0, ground := Ground.data }, { on := 1, ground := Ground.data }], guard := none }) (v := .bool false) rfl (by kernel_rfl) (by kernel_rfl) (by kernel_rfl) (by rfl) (fun _ _ _ h => h) (Or.inl ⟨by rfl, fun w0 hS0 => ?_⟩) (by assumption) ?_
      · go_simp
      try simp only [Act.put, List.setIfInBounds_toArray, List.set_cons_zero, List.set_cons_succ]
      refine Till.takeA (i := 3) (oi := { dst := some 62, op := Op.move (Operand.tmp 61), type := 4, pos := "law.go:42", after := #[{ on := 2, ground := Ground.data }], guard := none }) (v := .bool false) rfl (by kernel_rfl) (by kernel_rfl) (by kernel_rfl) (by rfl) (fun _ _ _ h => h) (Or.inl ⟨by rfl, fun w0 hS0 => ?_⟩) (by assumption) ?_
      · go_simp
      try simp only [Act.put, List.setIfInBounds_toArray, List.set_cons_zero, List.set_cons_succ]
      refine Till.takeA (i := 4) (oi := { dst := some 63, op := Op.move (Operand.tmp 8), type := 56, pos := "law.go:42", after := #[{ on := 3, ground := Ground.guard }], guard := some (3, false) }) (v := x) rfl (by kernel_rfl) (by kernel_rfl) (by kernel_rfl) (by rfl) (fun _ _ _ h => h) (Or.inl ⟨by rfl, fun w0 hS0 => ?_⟩) (by assumption) ?_
      · go_simp
      try simp only [Act.put, List.setIfInBounds_toArray, List.set_cons_zero, List.set_cons_succ]
      refine Till.takeA (i := 5) (oi := { dst := some 64, op := Op.move (Operand.tmp 12), type := 56, pos := "law.go:42", after := #[{ on := 3, ground := Ground.guard }], guard := some (3, false) }) (v := u) rfl (by kernel_rfl) (by kernel_rfl) (by kernel_rfl) (by rfl) (fun _ _ _ h => h) (Or.inl ⟨by rfl, fun w0 hS0 => ?_⟩) (by assumption) ?_
      · go_simp
      try simp only [Act.put, List.setIfInBounds_toArray, List.set_cons_zero, List.set_cons_succ]
      refine Till.next (i := 6) (o := { dst := some 65, op := Op.call { callee := Callee.value (Operand.func 38), args := #[Operand.tmp 63, Operand.tmp 64], argTypes := #[56, 56] }, type := 4, pos := "law.go:42", after := #[{ on := 4, ground := Ground.data }, { on := 5, ground := Ground.data }, { on := 3, ground := Ground.chain }, { on := 3, ground := Ground.guard }], guard := some (3, false) }) (by kernel_rfl) rfl (fun K hK => ?_)
      go_simp
      refine (rsame_any x u _ _ _ (owns_keep HO9.out hHeld) (owns_keep HU9.out hHeld) HLL.out HLL.out).mono ?_
      rintro e wA ⟨rfl, q, hq⟩
      rw [entsEq_self]
      have hHeldA : Below w9.heap.size w9 wA := by rw [hq]; exact below_drewN hHeld
      clear hq
      go_wp2_with fail
      refine hK.out _ _ (fun _ => hHeldA) ?_
      clear hK K
      try simp only [Act.put, List.setIfInBounds_toArray, List.set_cons_zero, List.set_cons_succ]
      refine Till.takeA (i := 7) (oi := { dst := some 66, op := Op.unOp UnOp.not 4 (Operand.tmp 65), type := 4, pos := "law.go:42", after := #[{ on := 6, ground := Ground.data }, { on := 3, ground := Ground.guard }], guard := some (3, false) }) (v := .bool false) rfl (by kernel_rfl) (by kernel_rfl) (by kernel_rfl) (by rfl) (fun _ _ _ h => h) (Or.inl ⟨by rfl, fun w0 hS0 => ?_⟩) (by assumption) ?_
      · go_simp
      try simp only [Act.put, List.setIfInBounds_toArray, List.set_cons_zero, List.set_cons_succ]
      refine Till.takeA (i := 8) (oi := { dst := some 67, op := Op.pick (Operand.tmp 62) (Operand.const (Value.bool true)) (Operand.tmp 66), type := 4, pos := "law.go:42", after := #[{ on := 3, ground := Ground.data }, { on := 7, ground := Ground.data }], guard := none }) (v := .bool false) rfl (by kernel_rfl) (by kernel_rfl) (by kernel_rfl) (by rfl) (fun _ _ _ h => h) (Or.inl ⟨by rfl, fun w0 hS0 => ?_⟩) (by assumption) ?_
      · go_simp
      try simp only [Act.put, List.setIfInBounds_toArray, List.set_cons_zero, List.set_cons_succ]
      refine Till.takeA (i := 9) (oi := { dst := some 68, op := Op.move (Operand.tmp 67), type := 4, pos := "law.go:42", after := #[{ on := 8, ground := Ground.data }, { on := 6, ground := Ground.chain }], guard := none }) (v := .bool false) rfl (by kernel_rfl) (by kernel_rfl) (by kernel_rfl) (by rfl) (fun _ _ _ h => h) (Or.inl ⟨by rfl, fun w0 hS0 => ?_⟩) (by assumption) ?_
      · go_simp
      try simp only [Act.put, List.setIfInBounds_toArray, List.set_cons_zero, List.set_cons_succ]
      refine Till.takeA (i := 10) (oi := { dst := some 69, op := Op.move (Operand.tmp 10), type := 9, pos := "law.go:42", after := #[{ on := 9, ground := Ground.guard }], guard := some (9, false) }) (v := .string (linkT M i)) rfl (by kernel_rfl) (by kernel_rfl) (by kernel_rfl) (by rfl) (fun _ _ _ h => h) (Or.inl ⟨by rfl, fun w0 hS0 => ?_⟩) (by assumption) ?_
      · go_simp
      try simp only [Act.put, List.setIfInBounds_toArray, List.set_cons_zero, List.set_cons_succ]
      refine Till.takeA (i := 11) (oi := { dst := some 70, op := Op.move (Operand.tmp 14), type := 9, pos := "law.go:42", after := #[{ on := 9, ground := Ground.guard }], guard := some (9, false) }) (v := .string (linkT M i)) rfl (by kernel_rfl) (by kernel_rfl) (by kernel_rfl) (by rfl) (fun _ _ _ h => h) (Or.inl ⟨by rfl, fun w0 hS0 => ?_⟩) (by assumption) ?_
      · go_simp
      try simp only [Act.put, List.setIfInBounds_toArray, List.set_cons_zero, List.set_cons_succ]
      refine Till.takeA (i := 12) (oi := { dst := some 71, op := Op.binOp BinOp.neq 9 (Operand.tmp 69) (Operand.tmp 70) 9, type := 4, pos := "law.go:42", after := #[{ on := 10, ground := Ground.data }, { on := 11, ground := Ground.data }, { on := 9, ground := Ground.guard }], guard := some (9, false) }) (v := .bool false) rfl (by kernel_rfl) (by kernel_rfl) (by kernel_rfl) (by rfl) (fun _ _ _ h => h) (Or.inl ⟨by rfl, fun w0 hS0 => ?_⟩) (by assumption) ?_
      · go_simp
      try simp only [Act.put, List.setIfInBounds_toArray, List.set_cons_zero, List.set_cons_succ]
      refine Till.takeA (i := 13) (oi := { dst := some 72, op := Op.pick (Operand.tmp 68) (Operand.const (Value.bool true)) (Operand.tmp 71), type := 4, pos := "law.go:42", after := #[{ on := 9, ground := Ground.data }, { on := 12, ground := Ground.data }], guard := none }) (v := .bool false) rfl (by kernel_rfl) (by kernel_rfl) (by kernel_rfl) (by rfl) (fun _ _ _ h => h) (Or.inl ⟨by rfl, fun w0 hS0 => ?_⟩) (by assumption) ?_
      · go_simp
      try simp only [Act.put, List.setIfInBounds_toArray, List.set_cons_zero, List.set_cons_succ]
      refine Till.takeA (i := 14) (oi := { dst := some 73, op := Op.move (Operand.tmp 72), type := 4, pos := "law.go:42", after := #[{ on := 13, ground := Ground.data }, { on := 9, ground := Ground.chain }], guard := none }) (v := .bool false) rfl (by kernel_rfl) (by kernel_rfl) (by kernel_rfl) (by rfl) (fun _ _ _ h => h) (Or.inl ⟨by rfl, fun w0 hS0 => ?_⟩) (by assumption) ?_
      · go_simp
      try simp only [Act.put, List.setIfInBounds_toArray, List.set_cons_zero, List.set_cons_succ]
      refine Till.takeA (i := 15) (oi := { dst := some 74, op := Op.move (Operand.tmp 11), type := 39, pos := "law.go:42", after := #[{ on := 14, ground := Ground.guard }], guard := some (14, false) }) (v := .int .i64 (linkE M i)) rfl (by kernel_rfl) (by kernel_rfl) (by kernel_rfl) (by rfl) (fun _ _ _ h => h) (Or.inl ⟨by rfl, fun w0 hS0 => ?_⟩) (by assumption) ?_
      · go_simp
      try simp only [Act.put, List.setIfInBounds_toArray, List.set_cons_zero, List.set_cons_succ]
      refine Till.takeA (i := 16) (oi := { dst := some 75, op := Op.move (Operand.tmp 15), type := 39, pos := "law.go:42", after := #[{ on := 14, ground := Ground.guard }], guard := some (14, false) }) (v := .int .i64 (linkE M i)) rfl (by kernel_rfl) (by kernel_rfl) (by kernel_rfl) (by rfl) (fun _ _ _ h => h) (Or.inl ⟨by rfl, fun w0 hS0 => ?_⟩) (by assumption) ?_
      · go_simp
      try simp only [Act.put, List.setIfInBounds_toArray, List.set_cons_zero, List.set_cons_succ]
      refine Till.takeA (i := 17) (oi := { dst := some 76, op := Op.binOp BinOp.neq 39 (Operand.tmp 74) (Operand.tmp 75) 39, type := 4, pos := "law.go:42", after := #[{ on := 15, ground := Ground.data }, { on := 16, ground := Ground.data }, { on := 14, ground := Ground.guard }], guard := some (14, false) }) (v := .bool false) rfl (by kernel_rfl) (by kernel_rfl) (by kernel_rfl) (by rfl) (fun _ _ _ h => h) (Or.inl ⟨by rfl, fun w0 hS0 => ?_⟩) (by assumption) ?_
      · go_simp
      try simp only [Act.put, List.setIfInBounds_toArray, List.set_cons_zero, List.set_cons_succ]
      refine Till.takeA (i := 18) (oi := { dst := some 77, op := Op.pick (Operand.tmp 73) (Operand.const (Value.bool true)) (Operand.tmp 76), type := 4, pos := "law.go:42", after := #[{ on := 14, ground := Ground.data }, { on := 17, ground := Ground.data }], guard := none }) (v := .bool false) rfl (by kernel_rfl) (by kernel_rfl) (by kernel_rfl) (by rfl) (fun _ _ _ h => h) (Or.inl ⟨by rfl, fun w0 hS0 => ?_⟩) (by assumption) ?_
      · go_simp
      try simp only [Act.put, List.setIfInBounds_toArray, List.set_cons_zero, List.set_cons_succ]
      refine Till.takeA (i := 19) (oi := { dst := some 78, op := Op.move (Operand.tmp 77), type := 4, pos := "law.go:42", after := #[{ on := 18, ground := Ground.data }, { on := 14, ground := Ground.chain }], guard := none }) (v := .bool false) rfl (by kernel_rfl) (by kernel_rfl) (by kernel_rfl) (by rfl) (fun _ _ _ h => h) (Or.inl ⟨by rfl, fun w0 hS0 => ?_⟩) (by assumption) ?_
      · go_simp
      try simp only [Act.put, List.setIfInBounds_toArray, List.set_cons_zero, List.set_cons_succ]
      refine Till.takeA (i := 20) (oi := { dst := some 79, op := Op.move (Operand.tmp 0), type := 30, pos := "law.go:42", after := #[{ on := 19, ground := Ground.guard }], guard := some (19, false) }) (v := .pointer (some ⟨p, 0, none⟩)) rfl (by kernel_rfl) (by kernel_rfl) (by kernel_rfl) (by rfl) (fun _ _ _ h => h) (Or.inl ⟨by rfl, fun w0 hS0 => ?_⟩) (by assumption) ?_
      · go_simp
      try simp only [Act.put, List.setIfInBounds_toArray, List.set_cons_zero, List.set_cons_succ]
      refine Till.takeA (i := 21) (oi := { dst := some 80, op := Op.move (Operand.tmp 5), type := 3, pos := "law.go:42", after := #[{ on := 19, ground := Ground.guard }], guard := some (19, false) }) (v := .int .i64 i) rfl (by kernel_rfl) (by kernel_rfl) (by kernel_rfl) (by rfl) (fun _ _ _ h => h) (Or.inl ⟨by rfl, fun w0 hS0 => ?_⟩) (by assumption) ?_
      · go_simp
      try simp only [Act.put, List.setIfInBounds_toArray, List.set_cons_zero, List.set_cons_succ]
      refine Till.takeA (i := 23) (oi := { dst := some 82, op := Op.load 37 (Operand.tmp 3), type := 37, pos := "law.go:42", after := #[{ on := 19, ground := Ground.guard }], guard := some (19, false) }) (v := .agg #[.slice (some ⟨gn, 0, none⟩) M.length cn, .slice al L.length cl, .slice (some ⟨gc, 0, none⟩) M.length cc, .slice (some ⟨gd, 0, none⟩) M.length cd, .slice (some ⟨ga, 0, none⟩) M.length ca, .slice af (devL M 0).length cf]) rfl (by kernel_rfl) (by kernel_rfl) (by kernel_rfl) (by rfl) (fun _ _ _ h => h) (Or.inl ⟨by rfl, fun w0 hS0 => ?_⟩) (by assumption) ?_
      · obtain ⟨e0, e1, e2, e3, e4, e5⟩ := HFc.out _ (below_two HB9.out hS0); go_simp
      try simp only [Act.put, List.setIfInBounds_toArray, List.set_cons_zero, List.set_cons_succ]
      refine Till.takeA (i := 24) (oi := { dst := some 83, op := Op.move (Operand.tmp 5), type := 3, pos := "law.go:42", after := #[{ on := 19, ground := Ground.guard }], guard := some (19, false) }) (v := .int .i64 i) rfl (by kernel_rfl) (by kernel_rfl) (by kernel_rfl) (by rfl) (fun _ _ _ h => h) (Or.inl ⟨by rfl, fun w0 hS0 => ?_⟩) (by assumption) ?_
      · go_simp
      try simp only [Act.put, List.setIfInBounds_toArray, List.set_cons_zero, List.set_cons_succ]
      refine Till.next (i := 22) (o := { dst := some 81, op := Op.call { callee := Callee.value (Operand.func 39), args := #[Operand.tmp 79, Operand.tmp 80], argTypes := #[30, 3] }, type := 3, pos := "law.go:42", after := #[{ on := 20, ground := Ground.data }, { on := 21, ground := Ground.data }, { on := 19, ground := Ground.chain }, { on := 19, ground := Ground.guard }], guard := some (19, false) }) (by kernel_rfl) rfl (fun K hK => ?_)
      go_simp
      refine (has_over i (HFr.out _ (below_two HB9.out hHeldA)) HM0.out).mono ?_
      rintro e wc ⟨rfl, hw⟩
      subst hw
      go_wp2_with fail
      refine hK.out _ _ (fun _ => hHeldA) ?_
      clear hK K
      try simp only [Act.put, List.setIfInBounds_toArray, List.set_cons_zero, List.set_cons_succ]
      refine Till.next (i := 25) (o := { dst := some 84, op := Op.call { callee := Callee.value (Operand.func 40), args := #[Operand.tmp 82, Operand.tmp 83], argTypes := #[37, 3] }, type := 3, pos := "law.go:42", after := #[{ on := 23, ground := Ground.data }, { on := 24, ground := Ground.data }, { on := 22, ground := Ground.chain }, { on := 19, ground := Ground.guard }], guard := some (19, false) }) (by kernel_rfl) rfl (fun K hK => ?_)
      go_simp
      refine (rover_any M L _ i _ (HRs.out _ (below_two HB9.out hHeldA)) HR.out HM0.out HMl.out HLl.out).mono ?_
      rintro e wB ⟨rfl, hb⟩
      have hHeldB : Below w9.heap.size w9 wB := below_two hHeldA hb
      clear hb
      go_wp2_with fail
      refine hK.out _ _ (fun _ => hHeldB) ?_
      clear hK K
      try simp only [Act.put, List.setIfInBounds_toArray, List.set_cons_zero, List.set_cons_succ]
      refine Till.takeA (i := 26) (oi := { dst := some 85, op := Op.binOp BinOp.neq 3 (Operand.tmp 81) (Operand.tmp 84) 3, type := 4, pos := "law.go:42", after := #[{ on := 22, ground := Ground.data }, { on := 25, ground := Ground.data }, { on := 19, ground := Ground.guard }], guard := some (19, false) }) (v := .bool false) rfl (by kernel_rfl) (by kernel_rfl) (by kernel_rfl) (by rfl) (fun _ _ _ h => h) (Or.inl ⟨by rfl, fun w0 hS0 => ?_⟩) (by assumption) ?_
      · go_simp
      try simp only [Act.put, List.setIfInBounds_toArray, List.set_cons_zero, List.set_cons_succ]
      refine Till.takeA (i := 27) (oi := { dst := some 86, op := Op.pick (Operand.tmp 78) (Operand.const (Value.bool true)) (Operand.tmp 85), type := 4, pos := "law.go:42", after := #[{ on := 19, ground := Ground.data }, { on := 26, ground := Ground.data }], guard := none }) (v := .bool false) rfl (by kernel_rfl) (by kernel_rfl) (by kernel_rfl) (by rfl) (fun _ _ _ h => h) (Or.inl ⟨by rfl, fun w0 hS0 => ?_⟩) (by assumption) ?_
      · go_simp
      try simp only [Act.put, List.setIfInBounds_toArray, List.set_cons_zero, List.set_cons_succ]
      refine Till.done (by kernel_rfl) ?_
      have HB11 := Lib.hid (below_two HB9.out hHeldB)
      have HX11 := Lib.hid (box_keep2 HX9.out hHeldB)
      clear hHeld hHeldA hHeldB HO9 HU9 HX9
      obtain ⟨s0, s1, s2, s3, s4, s5⟩ := HFc.out _ HB11.out
      cases hto : atM M i with
      | none =>
        have hno := Lib.hid (atM_none_dec hto)
        have hA1 : nodeEr M i = 2 := by unfold nodeEr; rw [hto]
        have hA2 : upI M i = -1 := by unfold upI; rw [hto]
        rw [hA1]
        have HA2 := Lib.hid hA2
        clear hto hA1 hA2
        go_wp2_with (first
          | (go_at_call 41; refine (refHas_any M L _ i _ (HRs.out _ HB11.out)).mono ?_; rintro e w12 ⟨rfl, hb⟩; rw [hno.out]; have HB12 := Lib.hid (below_two HB11.out hb); clear hb)
          | (go_at_call 42; refine (has_up i (HFr.out _ HB12.out) HM0.out).mono ?_; rintro e wc ⟨rfl, hw⟩; subst hw; rw [HA2.out]))
        go_roundw
        case rel => exact ⟨k + 1, by have := HIk.out; omega, congrArg (Value.int .i64) (by have := HIk.out; omega), HB12⟩
        case measure => have := HIk.out; simp [intOf]; omega
      | some n =>
        have hyes := Lib.hid (atM_some_dec hto)
        obtain ⟨j, hj, hx⟩ := atM_some hto
        have hA1 : nodeEr M i = 0 := by unfold nodeEr; rw [hto]
        rw [hA1]
        have hX11 := HX11.out
        rw [HNK.out n hto] at hX11
        have HX := Lib.hid hX11
        subst hj
        have HN := Lib.hid hx
        clear hto hA1 hX11 HX11 hx HNK HNV HSZ HOne
        go_upto_region 16 with (go_at_call 41; refine (refHas_any M L _ (j : Int) _ (HRs.out _ HB11.out)).mono ?_; rintro e w12 ⟨rfl, hb⟩; rw [hyes.out]; have HB12 := Lib.hid (below_two HB11.out hb); have HX12 := Lib.hid (box_keep2 HX.out hb); clear hb)
        clear s0 s1 s2 s3 s4 s5 HB11 HX
        have HNc := Lib.hid (show ∀ W, Below w12.heap.size w12 W → W.cell? ⟨nb, 0, none⟩ = some (.int .i64 n.dev) ∧ W.cell? ⟨nb, 1, none⟩ = some (.int .i64 n.ino) ∧ W.cell? ⟨nb, 2, none⟩ = some (.int .i64 n.kind) ∧ W.cell? ⟨nb, 3, none⟩ = some (.int .i64 n.mode) ∧ W.cell? ⟨nb, 4, none⟩ = some (.int .i64 n.uid) ∧ W.cell? ⟨nb, 5, none⟩ = some (.int .i64 n.gid) ∧ W.cell? ⟨nb, 6, none⟩ = some (.int .i64 n.size) ∧ W.cell? ⟨nb, 7, none⟩ = some (.int .i64 n.blocks) ∧ W.cell? ⟨nb, 8, none⟩ = some (.int .i64 n.links) ∧ W.cell? ⟨nb, 9, none⟩ = some (.int .i64 n.t0) ∧ W.cell? ⟨nb, 10, none⟩ = some (.int .i64 n.t1) ∧ W.cell? ⟨nb, 11, none⟩ = some (.int .i64 n.t2) ∧ W.cell? ⟨nb, 12, none⟩ = some (.string n.target) from fun W hb => by
          have q := box_keep2 HX12.out hb
          refine ⟨?_, ?_, ?_, ?_, ?_, ?_, ?_, ?_, ?_, ?_, ?_, ?_, ?_⟩ <;> (rw [cell_of_row _ _ _ _ _ _ q]; rfl))
        have HRN := Lib.hid (show ∀ W, Below w12.heap.size w12 W → Calls Try.prog 43 #[.agg #[.slice (some ⟨gn, 0, none⟩) M.length cn, .slice al L.length cl, .slice (some ⟨gc, 0, none⟩) M.length cc, .slice (some ⟨gd, 0, none⟩) M.length cd, .slice (some ⟨ga, 0, none⟩) M.length ca, .slice af (devL M 0).length cf], .int .i64 (j : Int)] W fun e w' => e = .returned (.agg #[.int .i64 n.dev, .int .i64 n.ino, .int .i64 n.kind, .int .i64 n.mode, .int .i64 n.uid, .int .i64 n.gid, .int .i64 n.size, .int .i64 n.blocks, .int .i64 n.links, .int .i64 n.t0, .int .i64 n.t1, .int .i64 n.t2, .string n.target]) ∧ Below W.heap.size W w' from fun W hb => by
          have q := rnode_any M L _ j n W (HRs.out W (below_two HB12.out hb)) HR.out HN.out HMl.out HLl.out
          rw [nodeCs_known HI.out HR.out HN.out] at q
          exact q)
        have hneq : ∀ W, (binOp .neq 53 (.agg #[.int .i64 n.dev, .int .i64 n.ino, .int .i64 n.kind, .int .i64 n.mode, .int .i64 n.uid, .int .i64 n.gid, .int .i64 n.size, .int .i64 n.blocks, .int .i64 n.links, .int .i64 n.t0, .int .i64 n.t1, .int .i64 n.t2, .string n.target]) (.agg #[.int .i64 n.dev, .int .i64 n.ino, .int .i64 n.kind, .int .i64 n.mode, .int .i64 n.uid, .int .i64 n.gid, .int .i64 n.size, .int .i64 n.blocks, .int .i64 n.links, .int .i64 n.t0, .int .i64 n.t1, .int .i64 n.t2, .string n.target])).run Try.prog W = .ok (.bool false) W := fun W => run_neq_known W n
        refine Till.region (z := 1000) (S := fun w' => Below w12.heap.size w12 w') (by kernel_rfl) ((Below.refl _ _).drew) (fun hHeld => ?_)
        refine Till.takeA (i := 0) (oi := { dst := some 99, op := Op.move (Operand.tmp 7), type := 39, pos := "law.go:49", after := #[], guard := none }) (v := .int .i64 0) rfl (by kernel_rfl) (by kernel_rfl) (by kernel_rfl) (by rfl) (fun _ _ _ h => h) (Or.inl ⟨by rfl, fun w0 hS0 => ?_⟩) (by assumption) ?_
        · go_simp
        try simp only [Act.put, List.setIfInBounds_toArray, List.set_cons_zero, List.set_cons_succ]
        refine Till.takeA (i := 1) (oi := { dst := some 100, op := Op.binOp BinOp.neq 39 (Operand.tmp 99) (Operand.const (Value.int IntKind.i64 0)) 39, type := 4, pos := "law.go:49", after := #[{ on := 0, ground := Ground.data }], guard := none }) (v := .bool false) rfl (by kernel_rfl) (by kernel_rfl) (by kernel_rfl) (by rfl) (fun _ _ _ h => h) (Or.inl ⟨by rfl, fun w0 hS0 => ?_⟩) (by assumption) ?_
        · go_simp
        try simp only [Act.put, List.setIfInBounds_toArray, List.set_cons_zero, List.set_cons_succ]
        refine Till.takeA (i := 2) (oi := { dst := some 101, op := Op.move (Operand.tmp 100), type := 4, pos := "law.go:49", after := #[{ on := 1, ground := Ground.data }], guard := none }) (v := .bool false) rfl (by kernel_rfl) (by kernel_rfl) (by kernel_rfl) (by rfl) (fun _ _ _ h => h) (Or.inl ⟨by rfl, fun w0 hS0 => ?_⟩) (by assumption) ?_
        · go_simp
        try simp only [Act.put, List.setIfInBounds_toArray, List.set_cons_zero, List.set_cons_succ]
        refine Till.takeA (i := 3) (oi := { dst := some 102, op := Op.load 53 (Operand.tmp 6), type := 53, pos := "law.go:49", after := #[{ on := 2, ground := Ground.guard }], guard := some (2, false) }) (v := .agg #[.int .i64 n.dev, .int .i64 n.ino, .int .i64 n.kind, .int .i64 n.mode, .int .i64 n.uid, .int .i64 n.gid, .int .i64 n.size, .int .i64 n.blocks, .int .i64 n.links, .int .i64 n.t0, .int .i64 n.t1, .int .i64 n.t2, .string n.target]) rfl (by kernel_rfl) (by kernel_rfl) (by kernel_rfl) (by rfl) (fun _ _ _ h => h) (Or.inl ⟨by rfl, fun w0 hS0 => ?_⟩) (by assumption) ?_
        · obtain ⟨d0, d1, d2, d3, d4, d5, d6, d7, d8, d9, d10, d11, d12⟩ := HNc.out _ hS0; go_simp
        try simp only [Act.put, List.setIfInBounds_toArray, List.set_cons_zero, List.set_cons_succ]
        refine Till.takeA (i := 4) (oi := { dst := some 103, op := Op.load 37 (Operand.tmp 3), type := 37, pos := "law.go:49", after := #[{ on := 2, ground := Ground.guard }], guard := some (2, false) }) (v := .agg #[.slice (some ⟨gn, 0, none⟩) M.length cn, .slice al L.length cl, .slice (some ⟨gc, 0, none⟩) M.length cc, .slice (some ⟨gd, 0, none⟩) M.length cd, .slice (some ⟨ga, 0, none⟩) M.length ca, .slice af (devL M 0).length cf]) rfl (by kernel_rfl) (by kernel_rfl) (by kernel_rfl) (by rfl) (fun _ _ _ h => h) (Or.inl ⟨by rfl, fun w0 hS0 => ?_⟩) (by assumption) ?_
        · obtain ⟨e0, e1, e2, e3, e4, e5⟩ := HFc.out _ (below_two HB12.out hS0); go_simp
        try simp only [Act.put, List.setIfInBounds_toArray, List.set_cons_zero, List.set_cons_succ]
        refine Till.takeA (i := 5) (oi := { dst := some 104, op := Op.move (Operand.tmp 5), type := 3, pos := "law.go:49", after := #[{ on := 2, ground := Ground.guard }], guard := some (2, false) }) (v := .int .i64 (j : Int)) rfl (by kernel_rfl) (by kernel_rfl) (by kernel_rfl) (by rfl) (fun _ _ _ h => h) (Or.inl ⟨by rfl, fun w0 hS0 => ?_⟩) (by assumption) ?_
        · go_simp
        try simp only [Act.put, List.setIfInBounds_toArray, List.set_cons_zero, List.set_cons_succ]
        refine Till.next (i := 6) (o := { dst := some 105, op := Op.call { callee := Callee.value (Operand.func 43), args := #[Operand.tmp 103, Operand.tmp 104], argTypes := #[37, 3] }, type := 53, pos := "law.go:49", after := #[{ on := 4, ground := Ground.data }, { on := 5, ground := Ground.data }, { on := 2, ground := Ground.chain }, { on := 2, ground := Ground.guard }], guard := some (2, false) }) (by kernel_rfl) rfl (fun K hK => ?_)
        go_simp
        refine (HRN.out _ hHeld).mono ?_
        rintro e wC ⟨rfl, hb⟩
        have hHeldC : Below w12.heap.size w12 wC := below_two hHeld hb
        clear hb
        go_wp2_with fail
        refine hK.out _ _ (fun _ => hHeldC) ?_
        clear hK K
        try simp only [Act.put, List.setIfInBounds_toArray, List.set_cons_zero, List.set_cons_succ]
        refine Till.takeA (i := 7) (oi := { dst := some 106, op := Op.binOp BinOp.neq 53 (Operand.tmp 102) (Operand.tmp 105) 53, type := 4, pos := "law.go:49", after := #[{ on := 3, ground := Ground.data }, { on := 6, ground := Ground.data }, { on := 2, ground := Ground.guard }], guard := some (2, false) }) (v := .bool false) rfl (by kernel_rfl) (by kernel_rfl) (by kernel_rfl) (by rfl) (fun _ _ _ h => h) (Or.inl ⟨by rfl, fun w0 hS0 => ?_⟩) (by assumption) ?_
        · go_simp
        try simp only [Act.put, List.setIfInBounds_toArray, List.set_cons_zero, List.set_cons_succ]
        refine Till.takeA (i := 8) (oi := { dst := some 107, op := Op.pick (Operand.tmp 101) (Operand.const (Value.bool true)) (Operand.tmp 106), type := 4, pos := "law.go:49", after := #[{ on := 2, ground := Ground.data }, { on := 7, ground := Ground.data }], guard := none }) (v := .bool false) rfl (by kernel_rfl) (by kernel_rfl) (by kernel_rfl) (by rfl) (fun _ _ _ h => h) (Or.inl ⟨by rfl, fun w0 hS0 => ?_⟩) (by assumption) ?_
        · go_simp
        try simp only [Act.put, List.setIfInBounds_toArray, List.set_cons_zero, List.set_cons_succ]
        refine Till.takeA (i := 9) (oi := { dst := some 108, op := Op.move (Operand.tmp 107), type := 4, pos := "law.go:49", after := #[{ on := 8, ground := Ground.data }, { on := 6, ground := Ground.chain }], guard := none }) (v := .bool false) rfl (by kernel_rfl) (by kernel_rfl) (by kernel_rfl) (by rfl) (fun _ _ _ h => h) (Or.inl ⟨by rfl, fun w0 hS0 => ?_⟩) (by assumption) ?_
        · go_simp
        try simp only [Act.put, List.setIfInBounds_toArray, List.set_cons_zero, List.set_cons_succ]
        refine Till.takeA (i := 10) (oi := { dst := some 109, op := Op.move (Operand.tmp 0), type := 30, pos := "law.go:49", after := #[{ on := 9, ground := Ground.guard }], guard := some (9, false) }) (v := .pointer (some ⟨p, 0, none⟩)) rfl (by kernel_rfl) (by kernel_rfl) (by kernel_rfl) (by rfl) (fun _ _ _ h => h) (Or.inl ⟨by rfl, fun w0 hS0 => ?_⟩) (by assumption) ?_
        · go_simp
        try simp only [Act.put, List.setIfInBounds_toArray, List.set_cons_zero, List.set_cons_succ]
        refine Till.takeA (i := 11) (oi := { dst := some 110, op := Op.move (Operand.tmp 5), type := 3, pos := "law.go:49", after := #[{ on := 9, ground := Ground.guard }], guard := some (9, false) }) (v := .int .i64 (j : Int)) rfl (by kernel_rfl) (by kernel_rfl) (by kernel_rfl) (by rfl) (fun _ _ _ h => h) (Or.inl ⟨by rfl, fun w0 hS0 => ?_⟩) (by assumption) ?_
        · go_simp
        try simp only [Act.put, List.setIfInBounds_toArray, List.set_cons_zero, List.set_cons_succ]
        refine Till.takeA (i := 13) (oi := { dst := some 112, op := Op.load 37 (Operand.tmp 3), type := 37, pos := "law.go:49", after := #[{ on := 9, ground := Ground.guard }], guard := some (9, false) }) (v := .agg #[.slice (some ⟨gn, 0, none⟩) M.length cn, .slice al L.length cl, .slice (some ⟨gc, 0, none⟩) M.length cc, .slice (some ⟨gd, 0, none⟩) M.length cd, .slice (some ⟨ga, 0, none⟩) M.length ca, .slice af (devL M 0).length cf]) rfl (by kernel_rfl) (by kernel_rfl) (by kernel_rfl) (by rfl) (fun _ _ _ h => h) (Or.inl ⟨by rfl, fun w0 hS0 => ?_⟩) (by assumption) ?_
        · obtain ⟨e0, e1, e2, e3, e4, e5⟩ := HFc.out _ (below_two HB12.out hS0); go_simp
        try simp only [Act.put, List.setIfInBounds_toArray, List.set_cons_zero, List.set_cons_succ]
        refine Till.takeA (i := 14) (oi := { dst := some 113, op := Op.move (Operand.tmp 5), type := 3, pos := "law.go:49", after := #[{ on := 9, ground := Ground.guard }], guard := some (9, false) }) (v := .int .i64 (j : Int)) rfl (by kernel_rfl) (by kernel_rfl) (by kernel_rfl) (by rfl) (fun _ _ _ h => h) (Or.inl ⟨by rfl, fun w0 hS0 => ?_⟩) (by assumption) ?_
        · go_simp
        try simp only [Act.put, List.setIfInBounds_toArray, List.set_cons_zero, List.set_cons_succ]
        refine Till.next (i := 12) (o := { dst := some 111, op := Op.call { callee := Callee.value (Operand.func 42), args := #[Operand.tmp 109, Operand.tmp 110], argTypes := #[30, 3] }, type := 3, pos := "law.go:49", after := #[{ on := 10, ground := Ground.data }, { on := 11, ground := Ground.data }, { on := 9, ground := Ground.chain }, { on := 9, ground := Ground.guard }], guard := some (9, false) }) (by kernel_rfl) rfl (fun K hK => ?_)
        go_simp
        refine (has_up (j : Int) (HFr.out _ (below_two HB12.out hHeldC)) HM0.out).mono ?_
        rintro e wc ⟨rfl, hw⟩
        subst hw
        go_wp2_with fail
        refine hK.out _ _ (fun _ => hHeldC) ?_
        clear hK K
        try simp only [Act.put, List.setIfInBounds_toArray, List.set_cons_zero, List.set_cons_succ]
        refine Till.next (i := 15) (o := { dst := some 114, op := Op.call { callee := Callee.value (Operand.func 44), args := #[Operand.tmp 112, Operand.tmp 113], argTypes := #[37, 3] }, type := 3, pos := "law.go:49", after := #[{ on := 13, ground := Ground.data }, { on := 14, ground := Ground.data }, { on := 12, ground := Ground.chain }, { on := 9, ground := Ground.guard }], guard := some (9, false) }) (by kernel_rfl) rfl (fun K hK => ?_)
        go_simp
        refine (rup_any M L _ (j : Int) _ (HRs.out _ (below_two HB12.out hHeldC)) HR.out HM0.out HMl.out HLl.out).mono ?_
        rintro e wD ⟨rfl, hb⟩
        have hHeldD : Below w12.heap.size w12 wD := below_two hHeldC hb
        clear hb
        go_wp2_with fail
        refine hK.out _ _ (fun _ => hHeldD) ?_
        clear hK K
        try simp only [Act.put, List.setIfInBounds_toArray, List.set_cons_zero, List.set_cons_succ]
        refine Till.takeA (i := 16) (oi := { dst := some 115, op := Op.binOp BinOp.neq 3 (Operand.tmp 111) (Operand.tmp 114) 3, type := 4, pos := "law.go:49", after := #[{ on := 12, ground := Ground.data }, { on := 15, ground := Ground.data }, { on := 9, ground := Ground.guard }], guard := some (9, false) }) (v := .bool false) rfl (by kernel_rfl) (by kernel_rfl) (by kernel_rfl) (by rfl) (fun _ _ _ h => h) (Or.inl ⟨by rfl, fun w0 hS0 => ?_⟩) (by assumption) ?_
        · go_simp
        try simp only [Act.put, List.setIfInBounds_toArray, List.set_cons_zero, List.set_cons_succ]
        refine Till.takeA (i := 17) (oi := { dst := some 116, op := Op.pick (Operand.tmp 108) (Operand.const (Value.bool true)) (Operand.tmp 115), type := 4, pos := "law.go:49", after := #[{ on := 9, ground := Ground.data }, { on := 16, ground := Ground.data }], guard := none }) (v := .bool false) rfl (by kernel_rfl) (by kernel_rfl) (by kernel_rfl) (by rfl) (fun _ _ _ h => h) (Or.inl ⟨by rfl, fun w0 hS0 => ?_⟩) (by assumption) ?_
        · go_simp
        try simp only [Act.put, List.setIfInBounds_toArray, List.set_cons_zero, List.set_cons_succ]
        refine Till.done (by kernel_rfl) ?_
        have HB16 := Lib.hid (below_two HB12.out hHeldD)
        clear hHeld hHeldC hHeldD
        go_wp2_with fail
        go_roundw
        case rel => exact ⟨k + 1, by have := HIk.out; omega, congrArg (Value.int .i64) (by have := HIk.out; omega), HB16⟩
        case measure => have := HIk.out; simp [intOf]; omega
    · have d1 : decide (i ≤ (M.length : Int)) = false := decide_eq_false hlt
      go_wp2_with fail
      go_ret
      exact ⟨rfl, below_two HF3.out.below HBr.out⟩
end Go.Proofs.Ytemjlamgnkjejaa
