/-
  What the reference's Dir returns: a directory's real path. Conditions: the reference's file system lies in memory; what is asked for is a directory that is covered by nothing, and no farther from the root than the bound.
-/
import Derived.Test.YtknfhphhcnbndaaGreatDoorFRRealM
import Derived.Test.YtknfhphhcnbndaaGreatDoorFVRefAsk
import Derived.Test.YtknfhphhcnbndaaGreatDoorFVAsk
import Derived.Test.YtknfhphhcnbndaaGreatDoorFJMem
import Derived.Test.YtknfhphhcnbndaaGreatDoorFJRefOne
set_option linter.unusedVariables false
set_option linter.unusedSimpArgs false
namespace Go.Proofs.YtknfhphhcnbndaaGreatDoor.J
open List renaming setIfInBounds_toArray → lt, set_cons_zero → l0, set_cons_succ → ls
open Go.Proofs.YtknfhphhcnbndaaGreatDoor.B
open Go.RowKit

def joinD (s nm : ByteArray) : ByteArray := if s = ⟨#[47]⟩ then s ++ nm else s ++ ⟨#[47]⟩ ++ nm
theorem toList_eq {a b : ByteArray} (h : a.toList = b.toList) : a = b := V.sameT_eq (by unfold V.sameT; rw [h]; simp)
theorem slash_list : (⟨#[47]⟩ : ByteArray).toList = [47] := by decide +kernel
theorem refJoin_any (s nm : ByteArray) (w : World) (hs : s.size ≤ 1000000) (hn : nm.size ≤ 1000000) : Calls Tryz.prog 98 #[.string s, .string nm] w fun e w' => e = .returned (.string (joinD s nm)) ∧ w' = w := by
  have h1 : ∀ W, (Op.stringOp .add s nm).run Tryz.prog W = .ok (.string (s ++ nm)) W := fun W => run_string_add_sum (P := Tryz.prog) (w := W) s nm (by omega)
  have h2 : ∀ W, (Op.stringOp .add s ⟨#[47]⟩).run Tryz.prog W = .ok (.string (s ++ ⟨#[47]⟩)) W := fun W => run_string_add_sum (P := Tryz.prog) (w := W) s ⟨#[47]⟩ (by have : (⟨#[47]⟩ : ByteArray).size = 1 := rfl; omega)
  have h3 : ∀ W, (Op.stringOp .add (s ++ ⟨#[47]⟩) nm).run Tryz.prog W = .ok (.string (s ++ ⟨#[47]⟩ ++ nm)) W := fun W => run_string_add_sum (P := Tryz.prog) (w := W) (s ++ ⟨#[47]⟩) nm (by have : (⟨#[47]⟩ : ByteArray).size = 1 := rfl; rw [ByteArray.size_append]; omega)
  by_cases q : s = ⟨#[47]⟩
  · have hj : joinD s nm = s ++ nm := by unfold joinD; rw [if_pos q]
    have d : (s.toList == ([47] : List UInt8)) = true := by rw [q, slash_list]; rfl
    rw [hj]
    clear q hj h2 h3
    go_enter Tryz.func98, Tryz.ntmps98
    go_wp2
    go_ret
    exact ⟨rfl, rfl⟩
  · have hj : joinD s nm = s ++ ⟨#[47]⟩ ++ nm := by unfold joinD; rw [if_neg q]
    have d : (s.toList == ([47] : List UInt8)) = false := beq_eq_false_iff_ne.2 (fun e => q (toList_eq (e.trans slash_list.symm)))
    rw [hj]
    clear q hj h1
    go_enter Tryz.func98, Tryz.ntmps98
    go_wp2
    go_ret
    exact ⟨rfl, rfl⟩
theorem path_root : V.pathOf [] = ⟨#[47]⟩ := by unfold V.pathOf; rw [if_pos rfl]; rfl
theorem path_more {ns : List ByteArray} (h : ∀ n ∈ ns, V.goodB n = true) (nm : ByteArray) : joinD (V.pathOf ns) nm = V.pathOf (ns ++ [nm]) := by
  have e2 : V.pathOf (ns ++ [nm]) = V.mkB (V.flatN (ns ++ [nm])) := V.path_flat (by simp)
  have e3 : V.flatN [nm] = 47 :: nm.data.toList := by rw [V.flatN, V.flatN, List.append_nil]
  cases ns with
  | nil =>
    have e1 : joinD (V.pathOf []) nm = ⟨#[47]⟩ ++ nm := by unfold joinD; rw [path_root, if_pos rfl]
    rw [e1, e2, List.nil_append, e3]
    apply ByteArray.ext
    rw [ByteArray.data_append, ← Array.toList_inj]
    simp [V.mkB]
  | cons n r =>
    have e4 : V.pathOf (n :: r) = V.mkB (V.flatN (n :: r)) := V.path_flat (by simp)
    have hne : V.pathOf (n :: r) ≠ ⟨#[47]⟩ := fun q => by
      have hg := V.good_ne (h n List.mem_cons_self)
      have : (V.pathOf (n :: r)).data.toList = [47] := by rw [q]
      rw [e4, V.mkB_list, V.flatN] at this
      simp at this
      exact hg (by rw [this.1])
    have e1 : joinD (V.pathOf (n :: r)) nm = V.pathOf (n :: r) ++ ⟨#[47]⟩ ++ nm := by unfold joinD; rw [if_neg hne]
    rw [e1, e2, V.flatN_app, e3, e4]
    apply ByteArray.ext
    rw [ByteArray.data_append, ByteArray.data_append, ← Array.toList_inj]
    simp [V.mkB]
theorem dirN_len {M : List V.Nd} (H : V.RI M) {i : Int} {ns : List ByteArray} (h : V.DirN M i ns) : ns.length ≤ i.toNat ∧ 0 ≤ i := by
  induction h with
  | root => exact ⟨Nat.zero_le _, Int.le_refl _⟩
  | step h0 hk hl he hd ih =>
    obtain ⟨s0, s1, _⟩ := V.step_lt H hk he
    rw [List.length_append, List.length_singleton]
    omega
def DirQ (M : List V.Nd) (i : Int) (s : ByteArray) (er : Int) : Prop := (er = 0 ∧ ∃ ns, V.DirN M i ns ∧ s = V.pathOf ns) ∨ (er ≠ 0 ∧ s = ⟨#[]⟩ ∧ ∀ ns, ¬ V.DirN M i ns)
theorem list_kind {M : List V.Nd} {a : Int} (h : V.listE M a = 0) : V.kindM M a = 2 := by
  unfold V.listE at h
  unfold V.kindM V.nvAt
  cases ha : V.atM M a with
  | none => rw [ha] at h; exact absurd h (by decide)
  | some n =>
    rw [ha] at h
    dsimp only at h ⊢
    split at h
    · assumption
    · exact absurd h (by decide)
def DRel (M : List V.Nd) (i a : Int) (l : List (ByteArray × Int)) (w5 : World) (v : Value) (wr : World) : Prop := ∃ k : Nat, k ≤ l.length ∧ v = .int .i64 (k : Int) ∧ Hid (V.firstN M i l = V.firstN M i (l.drop k)) ∧ Hid (Below w5.heap.size w5 wr)

set_option maxRecDepth 100000 in
set_option maxHeartbeats 16000000 in
theorem refDir_step {M : List V.Nd} {L : List V.It} (rn rl rc rd ra rf : Value) (hI : V.RI M) (hD : V.DU M) (hn : 0 < M.length) (hfw : M.length ≤ 300) (m i : Int) (w : World) (H : V.Rs M L ⟨rn, rl, rc, rd, ra, rf⟩ w) (R : V.Rel M L) (hL : L.length ≤ 1000000)
    (ho : V.overI M i = i) (hk : V.kindM M i = 2) (hm0 : 0 ≤ m) (hm1 : m ≤ 1000)
    (HIH : ∀ (a : Int) (X : World), Below w.heap.size w X → V.overI M a = a → V.kindM M a = 2 → a.toNat < i.toNat → Calls Tryz.prog 46 #[.agg #[rn, rl, rc, rd, ra, rf], .int .i64 a, .int .i64 (m - 1)] X fun e w' => ∃ s er, e = .returned (.tuple #[.string s, .int .i64 er]) ∧ DirQ M a s er ∧ Below X.heap.size X w') :
    Calls Tryz.prog 46 #[.agg #[rn, rl, rc, rd, ra, rf], .int .i64 i, .int .i64 m] w fun e w' => ∃ s er, e = .returned (.tuple #[.string s, .int .i64 er]) ∧ DirQ M i s er ∧ Below w.heap.size w w' := by
  have hM : M.length ≤ 1000000 := by omega
  have hup : ¬ V.upI M i < 0 := fun q => by
    have h1 := V.du_up hD hk
    have h2 : V.overI M (V.upI M i) = V.upI M i := by
      unfold V.overI
      cases hat : V.atM M (V.upI M i) with
      | none => rfl
      | some n => obtain ⟨k, hk, _⟩ := V.atM_some hat; omega
    rw [h2] at h1
    have := V.kind_lt h1
    omega
  have HSz := Lib.hid (show ∀ (b : Int) (ns : List ByteArray), V.DirN M b ns → b.toNat ≤ 300 → (V.pathOf ns).size ≤ 1000000 from fun b ns h hb => by
    have h1 := V.path_len (V.dirN_good hI h)
    have h2 := dirN_len hI h
    omega)
  have hil := V.kind_lt hk
  obtain ⟨a, ha⟩ : ∃ a, V.overI M (V.upI M i) = a := ⟨_, rfl⟩
  have HUp := Lib.hid (fun (X : World) (hb : Below w.heap.size w X) => V.rup_any M L ⟨rn, rl, rc, rd, ra, rf⟩ i X (H.keep hb) R hn hM hL)
  have HOa := Lib.hid (fun (X : World) (hb : Below w.heap.size w X) => V.rover_any M L ⟨rn, rl, rc, rd, ra, rf⟩ (V.upI M i) X (H.keep hb) R hn hM hL)
  have HOv := Lib.hid (fun (j : Int) (X : World) (hb : Below w.heap.size w X) => V.rover_any M L ⟨rn, rl, rc, rd, ra, rf⟩ j X (H.keep hb) R hn hM hL)
  have HLs := Lib.hid (fun (X : World) (hb : Below w.heap.size w X) => V.rlist_any M L ⟨rn, rl, rc, rd, ra, rf⟩ a X (H.keep hb) R hn hM hL)
  have HOne := Lib.hid (V.rs_one H)
  have HIh := Lib.hid HIH
  have HI := Lib.hid hI
  have HO0 := Lib.hid ho
  have HK := Lib.hid hk
  have HAe := Lib.hid ha
  have HNo := Lib.hid (show (V.listE M a ≠ 0 ∨ V.firstN M i (V.listL M a) = none) → i ≠ 0 → ∀ ns, ¬ V.DirN M i ns from fun h h0 ns hd => by
    obtain ⟨n0, nm, e, _, q1, q2, _⟩ := V.dirN_inv hd h0
    rw [ha] at q1 q2
    rcases h with h | h
    · exact h q1
    · rw [h] at q2; cases q2)
  have HLl := Lib.hid (show (V.listL M a).length ≤ L.length from by
    unfold V.listL
    cases hat : V.atM M a with
    | none => exact Nat.zero_le _
    | some n =>
      dsimp only
      split
      · split
        · exact Nat.zero_le _
        · obtain ⟨k, _, hk⟩ := V.atM_some hat
          rw [R.ents k n hk]
          exact V.entsL_len L _
      · exact Nat.zero_le _)
  rw [ha] at HOa
  unfold V.rvV at HUp HOa HOv HLs
  dsimp only at HUp HOa HOv HLs HOne
  clear H R HIH hI ho ha hM
  go_enter Tryz.func46, Tryz.ntmps46
  go_upto_region 1 with fail
  obtain ⟨B0, hB0⟩ : ∃ B0, w.heap.size = B0 := ⟨_, rfl⟩
  obtain ⟨w1, hw1⟩ : ∃ w1, w.alloc (.cells #[rn, rl, rc, rd, ra, rf] 31) = w1 := ⟨_, rfl⟩
  have HB1 := Lib.hid (show Below w.heap.size w w1 from by rw [← hw1]; exact (Below.refl _ _).alloc (Nat.le_refl _) _)
  have HX1 := Lib.hid (show w1.heap[B0]? = some (.cells #[rn, rl, rc, rd, ra, rf] 31) from by rw [← hw1, ← hB0]; exact heap_alloc_new _ _)
  rw [hw1, hB0]
  clear hw1 hB0
  have HXs := Lib.hid (show ∀ X, Below w1.heap.size w1 X → X.heap[B0]? = some (.cells #[rn, rl, rc, rd, ra, rf] 31) from fun X hX => V.box_keep2 HX1.out hX)
  have HCs := Lib.hid (show ∀ X, Below w1.heap.size w1 X → X.cell? ⟨B0, 0, none⟩ = some rn ∧ X.cell? ⟨B0, 1, none⟩ = some rl ∧ X.cell? ⟨B0, 2, none⟩ = some rc ∧ X.cell? ⟨B0, 3, none⟩ = some rd ∧ X.cell? ⟨B0, 4, none⟩ = some ra ∧ X.cell? ⟨B0, 5, none⟩ = some rf from fun X hX => by
    have q := HXs.out X hX
    refine ⟨?_, ?_, ?_, ?_, ?_, ?_⟩ <;> (rw [cell_of_row _ _ _ _ _ _ q]; rfl))
  have HBw := Lib.hid (show ∀ X, Below w1.heap.size w1 X → Below w.heap.size w X from fun X hX => below_two HB1.out hX)
  clear HX1
  obtain ⟨c0, c1, c2, c3, c4, c5⟩ := HCs.out _ (Below.refl _ _)
  have d2 : decide (m < 0) = false := decide_eq_false (by omega)
  have d1 : decide (V.upI M i < 0) = false := decide_eq_false hup
  clear hup
  obtain ⟨u, hu⟩ : ∃ u, V.upI M i = u := ⟨_, rfl⟩
  rw [hu] at d1 HUp HOa
  clear hu
  go_upto_region 3 with (go_at_call 95; refine (HUp.out _ HB1.out).mono ?_; rintro e w2 ⟨rfl, hb2⟩; have HB2 := Lib.hid hb2; clear hb2)
  clear c0 c1 c2 c3 c4 c5 d1 d2
  have iw : IntKind.i64.wrap (m - 1) = m - 1 := IntWalk.i64_in _ (by omega)
  by_cases h0 : i = 0
  · subst h0
    go_wp2_with fail
    go_ret2
    exact ⟨_, _, rfl, .inl ⟨rfl, [], V.DirN.root, path_root.symm⟩, HBw.out _ HB2.out⟩
  · have d0 : (i == 0) = false := beq_eq_false_iff_ne.2 h0
    have H0 := Lib.hid h0
    clear h0
    go_upto_region 5 with fail
    clear d0
-- TILL 5
    refine B.Till.region (z := 1000) (S := fun w' => Below w2.heap.size w2 w') (by kernel_rfl) ((Below.refl _ _).drew) (fun hHeld => ?_)
    refine B.Till.takeA (i := 0) (oi := ⟨some 24, .load 31 (.tmp 3), 31, "ref.go:18", #[], none⟩) (v := .agg #[rn, rl, rc, rd, ra, rf]) rfl (by kernel_rfl) (by kernel_rfl) (by kernel_rfl) (by kernel_rfl) (fun _ _ _ h => h) (yieldsIf_load_mid (by rfl) 31 (.tmp 3) rfl B0 0 rfl [rn, rl, rc, rd, ra, rf] _ (fun w0 hS0 => range_of (HXs.out _ (below_two HB2.out hS0))) Tryz.underlying31 rfl sizeFs6) (by assumption) ?_
    try simp only [Act.put, lt, l0, ls]
    refine B.Till.takeA (i := 1) (oi := ⟨some 25, .load 31 (.tmp 3), 31, "ref.go:18", #[], none⟩) (v := .agg #[rn, rl, rc, rd, ra, rf]) rfl (by kernel_rfl) (by kernel_rfl) (by kernel_rfl) (by kernel_rfl) (fun _ _ _ h => h) (yieldsIf_load_mid (by rfl) 31 (.tmp 3) rfl B0 0 rfl [rn, rl, rc, rd, ra, rf] _ (fun w0 hS0 => range_of (HXs.out _ (below_two HB2.out hS0))) Tryz.underlying31 rfl sizeFs6) (by assumption) ?_
    try simp only [Act.put, lt, l0, ls]
    refine B.Till.takeA (i := 2) (oi := ⟨some 26, .move (.tmp 1), 3, "ref.go:18", #[], none⟩) (v := .int .i64 i) rfl (by kernel_rfl) (by kernel_rfl) (by kernel_rfl) (by kernel_rfl) (fun _ _ _ h => h) (Or.inl ⟨by rfl, fun w0 hS0 => ?_⟩) (by assumption) ?_
    · go_simp
    try simp only [Act.put, lt, l0, ls]
    refine B.Till.next (i := 3) (o := ⟨some 27, .call ⟨.value (.func 95), #[.tmp 25, .tmp 26], #[31, 3]⟩, 3, "ref.go:18", #[⟨1, .data⟩, ⟨2, .data⟩], none⟩) (by kernel_rfl) rfl (fun K hK => ?_)
    go_simp
    refine (HUp.out _ (HBw.out _ (below_two HB2.out hHeld))).mono ?_
    rintro e w3 ⟨rfl, hb3⟩
    have hH3 : Below w2.heap.size w2 w3 := below_two hHeld hb3
    clear hb3
    go_wp2_with fail
    refine hK.out _ _ (fun _ => hH3) ?_
    clear hK K
    try simp only [Act.put, lt, l0, ls]
    refine B.Till.next (i := 4) (o := ⟨some 28, .call ⟨.value (.func 96), #[.tmp 24, .tmp 27], #[31, 3]⟩, 3, "ref.go:18", #[⟨0, .data⟩, ⟨3, .data⟩, ⟨3, .chain⟩], none⟩) (by kernel_rfl) rfl (fun K hK => ?_)
    go_simp
    refine (HOa.out _ (HBw.out _ (below_two HB2.out hH3))).mono ?_
    rintro e w4 ⟨rfl, hb4⟩
    have hH4 : Below w2.heap.size w2 w4 := below_two hH3 hb4
    have HB4 := Lib.hid (below_two HB2.out hH4)
    clear hb4
    go_wp2_with fail
    refine hK.out _ _ (fun _ => hH4) ?_
    clear hK K
    try simp only [Act.put, lt, l0, ls]
    refine B.Till.takeA (i := 5) (oi := ⟨some 8, .assign (.tmp 28), 3, "ref.go:18", #[⟨4, .data⟩, ⟨4, .chain⟩, ⟨0, .phase⟩, ⟨1, .phase⟩, ⟨2, .phase⟩, ⟨3, .phase⟩, ⟨4, .phase⟩], none⟩) (v := .int .i64 a) rfl (by kernel_rfl) (by kernel_rfl) (by kernel_rfl) (by kernel_rfl) (fun _ _ _ h => h) (Or.inl ⟨by rfl, fun w0 hS0 => ?_⟩) (by assumption) ?_
    · go_simp
    try simp only [Act.put, lt, l0, ls]
    refine B.Till.done (by kernel_rfl) ?_
-- TILL 5 END
    obtain ⟨c0, c1, c2, c3, c4, c5⟩ := HCs.out _ HB4.out
    go_upto_region 7 with (go_at_call 97; refine (HLs.out _ (HBw.out _ HB4.out)).mono ?_; rintro e w5 ⟨lx, rfl, ho5, hb5⟩; have HO5 := Lib.hid ho5; have HB5 := Lib.hid (below_two HB4.out hb5); have HGe := Lib.hid (show w4.heap.size ≤ w4.heap.size from Nat.le_refl _); clear ho5 hb5)
    clear c0 c1 c2 c3 c4 c5
    by_cases hle : V.listE M a = 0
    · have HLe := Lib.hid hle
      rw [hle]
      clear hle
      have hll := HLl.out
      obtain ⟨l, hl⟩ : ∃ l, V.listL M a = l := ⟨_, rfl⟩
      have HLx := Lib.hid hl
      rw [hl] at HO5 hll HNo
      obtain ⟨o5, cp5, rfl⟩ := owns_form HO5.out
      try rw [hl]
      clear hl
      go_upto_region 9 with fail
      go_wp2_with fail
      go_loopw [11] (DRel M i a l w5) (fun v _ => l.length - (intOf v).toNat)
      case atStart => exact ⟨0, Nat.zero_le _, rfl, Lib.hid rfl, Lib.hid (Below.refl _ _)⟩
      case round =>
        obtain ⟨k, hkl, rfl, HFi, HB7⟩ := hrel
        have HBr := Lib.hid (below_two HB5.out HB7.out)
        by_cases hlt : k < l.length
        · have e1 : decide ((k : Int) < (l.length : Int)) = true := decide_eq_true (by omega)
          obtain ⟨x, hx⟩ : ∃ x, l[k]? = some x := ⟨_, List.getElem?_eq_getElem hlt⟩
          have HO7 := Lib.hid (owns_to HO5.out HB7.out)
          obtain ⟨gg, cg, e2, _, _⟩ := V.owns_some HO7.out (by omega)
          simp only [Value.slice.injEq] at e2
          obtain ⟨rfl, _, rfl⟩ := e2
          have HKp := Lib.hid (show ∀ X, Below wr.heap.size wr X → X.cell? ⟨gg, k * 2, none⟩ = some (.string x.1) ∧ X.cell? ⟨gg, k * 2 + 1, none⟩ = some (.int .i64 x.2) from fun X hX => by
            have q := owns_to HO7.out hX
            exact ⟨V.owns_cell q (V.entCells_get l k x hx).1, V.owns_cell q (V.entCells_get l k x hx).2⟩)
          have HFx := Lib.hid (V.first_drop hx HFi.out)
          obtain ⟨nm, x2⟩ := x
          dsimp only at HKp HFx
          clear hx HFi
          go_upto_region 12 with fail
          clear e1
          by_cases he : x2 = i
          · have hov : V.overI M x2 = i := by rw [he]; exact HO0.out
            have d1 : (x2 != i) = false := by rw [he]; simp
            clear he
-- TILL 120
            refine B.Till.region (z := 1000) (S := fun w' => Below wr.heap.size wr w') (by kernel_rfl) ((Below.refl _ _).drew) (fun hHeld => ?_)
            refine B.Till.takeA (i := 0) (oi := ⟨some 44, .move (.tmp 9), 133, "ref.go:24", #[], none⟩) (v := .slice (some ⟨gg, 0, none⟩) l.length cp5) rfl (by kernel_rfl) (by kernel_rfl) (by kernel_rfl) (by kernel_rfl) (fun _ _ _ h => h) (Or.inl ⟨by rfl, fun w0 hS0 => ?_⟩) (by assumption) ?_
            · go_simp
            try simp only [Act.put, lt, l0, ls]
            refine B.Till.takeA (i := 1) (oi := ⟨some 45, .move (.tmp 11), 3, "ref.go:24", #[], none⟩) (v := .int .i64 (k : Int)) rfl (by kernel_rfl) (by kernel_rfl) (by kernel_rfl) (by kernel_rfl) (fun _ _ _ h => h) (Or.inl ⟨by rfl, fun w0 hS0 => ?_⟩) (by assumption) ?_
            · go_simp
            try simp only [Act.put, lt, l0, ls]
            refine B.Till.takeA (i := 2) (oi := ⟨some 46, .indexAddr 133 (.tmp 44) (.tmp 45), 0, "ref.go:24", #[⟨0, .data⟩, ⟨1, .data⟩], none⟩) (v := .pointer (some ⟨gg, k * 2, none⟩)) rfl (by kernel_rfl) (by kernel_rfl) (by kernel_rfl) (by kernel_rfl) (fun _ _ _ h => h) (Or.inl ⟨by rfl, fun w0 hS0 => ?_⟩) (by assumption) ?_
            · have hkk : ¬ ((l.length : Int) ≤ (k : Int)) := (by omega); go_simp
            try simp only [Act.put, lt, l0, ls]
            refine B.Till.takeA (i := 3) (oi := ⟨some 47, .fieldAddr 177 (.tmp 46) 1, 0, "ref.go:24", #[⟨2, .data⟩], none⟩) (v := .pointer (some ⟨gg, k * 2 + 1, none⟩)) rfl (by kernel_rfl) (by kernel_rfl) (by kernel_rfl) (by kernel_rfl) (fun _ _ _ h => h) (Or.inl ⟨by rfl, fun w0 hS0 => ?_⟩) (by assumption) ?_
            · go_simp
            try simp only [Act.put, lt, l0, ls]
            refine B.Till.takeA (i := 4) (oi := ⟨some 48, .load 3 (.tmp 47), 3, "ref.go:24", #[⟨3, .data⟩], none⟩) (v := .int .i64 x2) rfl (by kernel_rfl) (by kernel_rfl) (by kernel_rfl) (by kernel_rfl) (fun _ _ _ h => h) (Or.inl ⟨by rfl, fun w0 hS0 => ?_⟩) (by assumption) ?_
            · have b4 := (HKp.out _ hS0).2; go_simp
            try simp only [Act.put, lt, l0, ls]
            refine B.Till.takeA (i := 5) (oi := ⟨some 49, .move (.tmp 1), 3, "ref.go:24", #[], none⟩) (v := .int .i64 i) rfl (by kernel_rfl) (by kernel_rfl) (by kernel_rfl) (by kernel_rfl) (fun _ _ _ h => h) (Or.inl ⟨by rfl, fun w0 hS0 => ?_⟩) (by assumption) ?_
            · go_simp
            try simp only [Act.put, lt, l0, ls]
            refine B.Till.takeA (i := 6) (oi := ⟨some 50, .binOp .neq 3 (.tmp 48) (.tmp 49) 3, 4, "ref.go:24", #[⟨4, .data⟩, ⟨5, .data⟩], none⟩) (v := .bool false) rfl (by kernel_rfl) (by kernel_rfl) (by kernel_rfl) (by kernel_rfl) (fun _ _ _ h => h) (Or.inl ⟨by rfl, fun w0 hS0 => ?_⟩) (by assumption) ?_
            · go_simp
            try simp only [Act.put, lt, l0, ls]
            refine B.Till.takeA (i := 7) (oi := ⟨some 51, .move (.tmp 50), 4, "ref.go:24", #[⟨6, .data⟩], none⟩) (v := .bool false) rfl (by kernel_rfl) (by kernel_rfl) (by kernel_rfl) (by kernel_rfl) (fun _ _ _ h => h) (Or.inl ⟨by rfl, fun w0 hS0 => ?_⟩) (by assumption) ?_
            · go_simp
            try simp only [Act.put, lt, l0, ls]
            refine B.Till.takeA (i := 8) (oi := ⟨some 52, .load 31 (.tmp 3), 31, "ref.go:24", #[⟨7, .guard⟩], some (7, true)⟩) (v := undef) rfl (by kernel_rfl) (by kernel_rfl) (by kernel_rfl) (by kernel_rfl) (fun _ _ _ h => h) (Or.inr ⟨by rfl, rfl⟩) (by assumption) ?_
            try simp only [Act.put, lt, l0, ls]
            refine B.Till.takeA (i := 9) (oi := ⟨some 53, .move (.tmp 9), 133, "ref.go:24", #[⟨7, .guard⟩], some (7, true)⟩) (v := undef) rfl (by kernel_rfl) (by kernel_rfl) (by kernel_rfl) (by kernel_rfl) (fun _ _ _ h => h) (Or.inr ⟨by rfl, rfl⟩) (by assumption) ?_
            try simp only [Act.put, lt, l0, ls]
            refine B.Till.takeA (i := 10) (oi := ⟨some 54, .move (.tmp 11), 3, "ref.go:24", #[⟨7, .guard⟩], some (7, true)⟩) (v := undef) rfl (by kernel_rfl) (by kernel_rfl) (by kernel_rfl) (by kernel_rfl) (fun _ _ _ h => h) (Or.inr ⟨by rfl, rfl⟩) (by assumption) ?_
            try simp only [Act.put, lt, l0, ls]
            refine B.Till.takeA (i := 11) (oi := ⟨some 55, .indexAddr 133 (.tmp 53) (.tmp 54), 0, "ref.go:24", #[⟨9, .data⟩, ⟨10, .data⟩, ⟨7, .guard⟩], some (7, true)⟩) (v := undef) rfl (by kernel_rfl) (by kernel_rfl) (by kernel_rfl) (by kernel_rfl) (fun _ _ _ h => h) (Or.inr ⟨by rfl, rfl⟩) (by assumption) ?_
            try simp only [Act.put, lt, l0, ls]
            refine B.Till.takeA (i := 12) (oi := ⟨some 56, .fieldAddr 177 (.tmp 55) 1, 0, "ref.go:24", #[⟨11, .data⟩, ⟨7, .guard⟩], some (7, true)⟩) (v := undef) rfl (by kernel_rfl) (by kernel_rfl) (by kernel_rfl) (by kernel_rfl) (fun _ _ _ h => h) (Or.inr ⟨by rfl, rfl⟩) (by assumption) ?_
            try simp only [Act.put, lt, l0, ls]
            refine B.Till.takeA (i := 13) (oi := ⟨some 57, .load 3 (.tmp 56), 3, "ref.go:24", #[⟨12, .data⟩, ⟨7, .guard⟩], some (7, true)⟩) (v := undef) rfl (by kernel_rfl) (by kernel_rfl) (by kernel_rfl) (by kernel_rfl) (fun _ _ _ h => h) (Or.inr ⟨by rfl, rfl⟩) (by assumption) ?_
            try simp only [Act.put, lt, l0, ls]
            refine B.Till.takeA (i := 14) (oi := ⟨some 58, .call ⟨.value (.func 96), #[.tmp 52, .tmp 57], #[31, 3]⟩, 3, "ref.go:24", #[⟨8, .data⟩, ⟨13, .data⟩, ⟨7, .chain⟩, ⟨7, .guard⟩], some (7, true)⟩) (v := undef) rfl (by kernel_rfl) (by kernel_rfl) (by kernel_rfl) (by kernel_rfl) (fun _ _ _ h => h) (Or.inr ⟨by rfl, rfl⟩) (by assumption) ?_
            try simp only [Act.put, lt, l0, ls]
            refine B.Till.takeA (i := 15) (oi := ⟨some 59, .move (.tmp 1), 3, "ref.go:24", #[⟨7, .guard⟩], some (7, true)⟩) (v := undef) rfl (by kernel_rfl) (by kernel_rfl) (by kernel_rfl) (by kernel_rfl) (fun _ _ _ h => h) (Or.inr ⟨by rfl, rfl⟩) (by assumption) ?_
            try simp only [Act.put, lt, l0, ls]
            refine B.Till.takeA (i := 16) (oi := ⟨some 60, .binOp .neq 3 (.tmp 58) (.tmp 59) 3, 4, "ref.go:24", #[⟨14, .data⟩, ⟨15, .data⟩, ⟨7, .guard⟩], some (7, true)⟩) (v := undef) rfl (by kernel_rfl) (by kernel_rfl) (by kernel_rfl) (by kernel_rfl) (fun _ _ _ h => h) (Or.inr ⟨by rfl, rfl⟩) (by assumption) ?_
            try simp only [Act.put, lt, l0, ls]
            refine B.Till.takeA (i := 17) (oi := ⟨some 61, .pick (.tmp 51) (.tmp 60) (.const (.bool false)), 4, "ref.go:24", #[⟨7, .data⟩, ⟨16, .data⟩], none⟩) (v := .bool false) rfl (by kernel_rfl) (by kernel_rfl) (by kernel_rfl) (by kernel_rfl) (fun _ _ _ h => h) (Or.inl ⟨by rfl, fun w0 hS0 => ?_⟩) (by assumption) ?_
            · go_simp
            try simp only [Act.put, lt, l0, ls]
            refine B.Till.done (by kernel_rfl) ?_
-- TILL 120 END
            obtain ⟨w8, hw8⟩ : ∃ W, W = wr.drew := ⟨_, rfl⟩
            rw [← hw8] at hHeld ⊢
            have hH8 := hHeld
            clear hHeld hw8
            have HK8 := Lib.hid (fun (X : World) (hb : Below w8.heap.size w8 X) => HKp.out X (below_two hH8 hb))
            have HB8 := Lib.hid (below_two HBr.out hH8)
            have HFy := Lib.hid (show V.firstN M i l = some (nm, x2) from by rw [HFx.out, if_pos hov])
            obtain ⟨s0, s1, s2⟩ := V.step_lt HI.out HK.out (by rw [HLx.out]; exact HFy.out)
            have HGn := Lib.hid s2
            have HIr := Lib.hid (fun (X : World) (hb : Below w1.heap.size w1 X) => HIh.out a X (HBw.out X hb) (by rw [← HAe.out]; exact V.over_over HI.out _) (list_kind HLe.out) (by omega))
            have hnz : nm.size ≤ 1000000 := by have := (V.goodB_parts s2).2.1; omega
            have ha3 : a.toNat ≤ 300 := by omega
            clear HFx HKp hH8 s0 s1 s2
            obtain ⟨c0, c1, c2, c3, c4, c5⟩ := HCs.out _ HB8.out
            go_upto_region 14 with (go_at_call 46; refine (HIr.out _ HB8.out).mono ?_; rintro e w9 ⟨s, er, rfl, hq, hb9⟩; have HQ := Lib.hid hq; have HB9 := Lib.hid (below_two HB8.out hb9); have HK9 := Lib.hid (HK8.out _ hb9); clear hq hb9)
            clear c0 c1 c2 c3 c4 c5 HIr HK8
            rcases HQ.out with ⟨rfl, ns, hd, hs⟩ | ⟨her, hs, hno⟩
            · have HJ := Lib.hid (show joinD s nm = V.pathOf (ns ++ [nm]) from by rw [hs]; exact path_more (V.dirN_good HI.out hd) nm)
              have hsz : s.size ≤ 1000000 := by rw [hs]; exact HSz.out a ns hd ha3
              have HDn := Lib.hid (show V.DirN M i (ns ++ [nm]) from V.DirN.step (e := x2) H0.out HK.out (by rw [HAe.out]; exact HLe.out) (by rw [HAe.out, HLx.out]; exact HFy.out) (by rw [HAe.out]; exact hd))
              have a0 := HK9.out.1
              clear hs hd HQ HK9
              go_wp2_with (go_at_call 98; refine (refJoin_any s nm _ hsz hnz).mono ?_; rintro e wA ⟨rfl, hw⟩; subst hw)
              go_ret2
              exact ⟨_, _, rfl, .inl ⟨rfl, _, HDn.out, HJ.out⟩, HBw.out _ HB9.out⟩
            · have d7 : (er != 0) = true := by simpa using her
              have HNa := Lib.hid (show ∀ ns, ¬ V.DirN M i ns from fun ns h => by
                obtain ⟨n0, _, _, _, _, _, q⟩ := V.dirN_inv h H0.out
                rw [HAe.out] at q
                exact hno n0 q)
              have HEr := Lib.hid her
              clear hs hno her HQ HK9
              go_wp2_with fail
              go_ret2
              exact ⟨_, _, rfl, .inr ⟨HEr.out, rfl, HNa.out⟩, HBw.out _ HB9.out⟩
          · have d1 : (x2 != i) = true := by simpa using he
            obtain ⟨ov, hov⟩ : ∃ ov, V.overI M x2 = ov := ⟨_, rfl⟩
            have HOx := Lib.hid (HOv.out x2)
            rw [hov] at HOx HFx
            clear hov he
            by_cases hit : ov = i
            · have d3 : (ov != i) = false := by rw [hit]; simp
-- TILL 121
              refine B.Till.region (z := 1000) (S := fun w' => Below wr.heap.size wr w') (by kernel_rfl) ((Below.refl _ _).drew) (fun hHeld => ?_)
              refine B.Till.takeA (i := 0) (oi := ⟨some 44, .move (.tmp 9), 133, "ref.go:24", #[], none⟩) (v := .slice (some ⟨gg, 0, none⟩) l.length cp5) rfl (by kernel_rfl) (by kernel_rfl) (by kernel_rfl) (by kernel_rfl) (fun _ _ _ h => h) (Or.inl ⟨by rfl, fun w0 hS0 => ?_⟩) (by assumption) ?_
              · go_simp
              try simp only [Act.put, lt, l0, ls]
              refine B.Till.takeA (i := 1) (oi := ⟨some 45, .move (.tmp 11), 3, "ref.go:24", #[], none⟩) (v := .int .i64 (k : Int)) rfl (by kernel_rfl) (by kernel_rfl) (by kernel_rfl) (by kernel_rfl) (fun _ _ _ h => h) (Or.inl ⟨by rfl, fun w0 hS0 => ?_⟩) (by assumption) ?_
              · go_simp
              try simp only [Act.put, lt, l0, ls]
              refine B.Till.takeA (i := 2) (oi := ⟨some 46, .indexAddr 133 (.tmp 44) (.tmp 45), 0, "ref.go:24", #[⟨0, .data⟩, ⟨1, .data⟩], none⟩) (v := .pointer (some ⟨gg, k * 2, none⟩)) rfl (by kernel_rfl) (by kernel_rfl) (by kernel_rfl) (by kernel_rfl) (fun _ _ _ h => h) (Or.inl ⟨by rfl, fun w0 hS0 => ?_⟩) (by assumption) ?_
              · have hkk : ¬ ((l.length : Int) ≤ (k : Int)) := (by omega); go_simp
              try simp only [Act.put, lt, l0, ls]
              refine B.Till.takeA (i := 3) (oi := ⟨some 47, .fieldAddr 177 (.tmp 46) 1, 0, "ref.go:24", #[⟨2, .data⟩], none⟩) (v := .pointer (some ⟨gg, k * 2 + 1, none⟩)) rfl (by kernel_rfl) (by kernel_rfl) (by kernel_rfl) (by kernel_rfl) (fun _ _ _ h => h) (Or.inl ⟨by rfl, fun w0 hS0 => ?_⟩) (by assumption) ?_
              · go_simp
              try simp only [Act.put, lt, l0, ls]
              refine B.Till.takeA (i := 4) (oi := ⟨some 48, .load 3 (.tmp 47), 3, "ref.go:24", #[⟨3, .data⟩], none⟩) (v := .int .i64 x2) rfl (by kernel_rfl) (by kernel_rfl) (by kernel_rfl) (by kernel_rfl) (fun _ _ _ h => h) (Or.inl ⟨by rfl, fun w0 hS0 => ?_⟩) (by assumption) ?_
              · have b4 := (HKp.out _ hS0).2; go_simp
              try simp only [Act.put, lt, l0, ls]
              refine B.Till.takeA (i := 5) (oi := ⟨some 49, .move (.tmp 1), 3, "ref.go:24", #[], none⟩) (v := .int .i64 i) rfl (by kernel_rfl) (by kernel_rfl) (by kernel_rfl) (by kernel_rfl) (fun _ _ _ h => h) (Or.inl ⟨by rfl, fun w0 hS0 => ?_⟩) (by assumption) ?_
              · go_simp
              try simp only [Act.put, lt, l0, ls]
              refine B.Till.takeA (i := 6) (oi := ⟨some 50, .binOp .neq 3 (.tmp 48) (.tmp 49) 3, 4, "ref.go:24", #[⟨4, .data⟩, ⟨5, .data⟩], none⟩) (v := .bool true) rfl (by kernel_rfl) (by kernel_rfl) (by kernel_rfl) (by kernel_rfl) (fun _ _ _ h => h) (Or.inl ⟨by rfl, fun w0 hS0 => ?_⟩) (by assumption) ?_
              · go_simp
              try simp only [Act.put, lt, l0, ls]
              refine B.Till.takeA (i := 7) (oi := ⟨some 51, .move (.tmp 50), 4, "ref.go:24", #[⟨6, .data⟩], none⟩) (v := .bool true) rfl (by kernel_rfl) (by kernel_rfl) (by kernel_rfl) (by kernel_rfl) (fun _ _ _ h => h) (Or.inl ⟨by rfl, fun w0 hS0 => ?_⟩) (by assumption) ?_
              · go_simp
              try simp only [Act.put, lt, l0, ls]
              refine B.Till.takeA (i := 8) (oi := ⟨some 52, .load 31 (.tmp 3), 31, "ref.go:24", #[⟨7, .guard⟩], some (7, true)⟩) (v := .agg #[rn, rl, rc, rd, ra, rf]) rfl (by kernel_rfl) (by kernel_rfl) (by kernel_rfl) (by kernel_rfl) (fun _ _ _ h => h) (yieldsIf_load_mid (by rfl) 31 (.tmp 3) rfl B0 0 rfl [rn, rl, rc, rd, ra, rf] _ (fun w0 hS0 => range_of (HXs.out _ (below_two HBr.out hS0))) Tryz.underlying31 rfl sizeFs6) (by assumption) ?_
              try simp only [Act.put, lt, l0, ls]
              refine B.Till.takeA (i := 9) (oi := ⟨some 53, .move (.tmp 9), 133, "ref.go:24", #[⟨7, .guard⟩], some (7, true)⟩) (v := .slice (some ⟨gg, 0, none⟩) l.length cp5) rfl (by kernel_rfl) (by kernel_rfl) (by kernel_rfl) (by kernel_rfl) (fun _ _ _ h => h) (Or.inl ⟨by rfl, fun w0 hS0 => ?_⟩) (by assumption) ?_
              · go_simp
              try simp only [Act.put, lt, l0, ls]
              refine B.Till.takeA (i := 10) (oi := ⟨some 54, .move (.tmp 11), 3, "ref.go:24", #[⟨7, .guard⟩], some (7, true)⟩) (v := .int .i64 (k : Int)) rfl (by kernel_rfl) (by kernel_rfl) (by kernel_rfl) (by kernel_rfl) (fun _ _ _ h => h) (Or.inl ⟨by rfl, fun w0 hS0 => ?_⟩) (by assumption) ?_
              · go_simp
              try simp only [Act.put, lt, l0, ls]
              refine B.Till.takeA (i := 11) (oi := ⟨some 55, .indexAddr 133 (.tmp 53) (.tmp 54), 0, "ref.go:24", #[⟨9, .data⟩, ⟨10, .data⟩, ⟨7, .guard⟩], some (7, true)⟩) (v := .pointer (some ⟨gg, k * 2, none⟩)) rfl (by kernel_rfl) (by kernel_rfl) (by kernel_rfl) (by kernel_rfl) (fun _ _ _ h => h) (Or.inl ⟨by rfl, fun w0 hS0 => ?_⟩) (by assumption) ?_
              · have hkk : ¬ ((l.length : Int) ≤ (k : Int)) := (by omega); go_simp
              try simp only [Act.put, lt, l0, ls]
              refine B.Till.takeA (i := 12) (oi := ⟨some 56, .fieldAddr 177 (.tmp 55) 1, 0, "ref.go:24", #[⟨11, .data⟩, ⟨7, .guard⟩], some (7, true)⟩) (v := .pointer (some ⟨gg, k * 2 + 1, none⟩)) rfl (by kernel_rfl) (by kernel_rfl) (by kernel_rfl) (by kernel_rfl) (fun _ _ _ h => h) (Or.inl ⟨by rfl, fun w0 hS0 => ?_⟩) (by assumption) ?_
              · go_simp
              try simp only [Act.put, lt, l0, ls]
              refine B.Till.takeA (i := 13) (oi := ⟨some 57, .load 3 (.tmp 56), 3, "ref.go:24", #[⟨12, .data⟩, ⟨7, .guard⟩], some (7, true)⟩) (v := .int .i64 x2) rfl (by kernel_rfl) (by kernel_rfl) (by kernel_rfl) (by kernel_rfl) (fun _ _ _ h => h) (Or.inl ⟨by rfl, fun w0 hS0 => ?_⟩) (by assumption) ?_
              · have b4 := (HKp.out _ hS0).2; go_simp
              try simp only [Act.put, lt, l0, ls]
              refine B.Till.takeA (i := 15) (oi := ⟨some 59, .move (.tmp 1), 3, "ref.go:24", #[⟨7, .guard⟩], some (7, true)⟩) (v := .int .i64 i) rfl (by kernel_rfl) (by kernel_rfl) (by kernel_rfl) (by kernel_rfl) (fun _ _ _ h => h) (Or.inl ⟨by rfl, fun w0 hS0 => ?_⟩) (by assumption) ?_
              · go_simp
              try simp only [Act.put, lt, l0, ls]
              refine B.Till.next (i := 14) (o := ⟨some 58, .call ⟨.value (.func 96), #[.tmp 52, .tmp 57], #[31, 3]⟩, 3, "ref.go:24", #[⟨8, .data⟩, ⟨13, .data⟩, ⟨7, .chain⟩, ⟨7, .guard⟩], some (7, true)⟩) (by kernel_rfl) rfl (fun K hK => ?_)
              go_simp
              refine (HOx.out _ (HBw.out _ (below_two HBr.out hHeld))).mono ?_
              rintro e w8 ⟨rfl, hb8⟩
              have hH8 : Below wr.heap.size wr w8 := below_two hHeld hb8
              clear hb8
              go_wp2_with fail
              refine hK.out _ _ (fun _ => hH8) ?_
              clear hK K
              try simp only [Act.put, lt, l0, ls]
              refine B.Till.takeA (i := 16) (oi := ⟨some 60, .binOp .neq 3 (.tmp 58) (.tmp 59) 3, 4, "ref.go:24", #[⟨14, .data⟩, ⟨15, .data⟩, ⟨7, .guard⟩], some (7, true)⟩) (v := .bool false) rfl (by kernel_rfl) (by kernel_rfl) (by kernel_rfl) (by kernel_rfl) (fun _ _ _ h => h) (Or.inl ⟨by rfl, fun w0 hS0 => ?_⟩) (by assumption) ?_
              · go_simp
              try simp only [Act.put, lt, l0, ls]
              refine B.Till.takeA (i := 17) (oi := ⟨some 61, .pick (.tmp 51) (.tmp 60) (.const (.bool false)), 4, "ref.go:24", #[⟨7, .data⟩, ⟨16, .data⟩], none⟩) (v := .bool false) rfl (by kernel_rfl) (by kernel_rfl) (by kernel_rfl) (by kernel_rfl) (fun _ _ _ h => h) (Or.inl ⟨by rfl, fun w0 hS0 => ?_⟩) (by assumption) ?_
              · go_simp
              try simp only [Act.put, lt, l0, ls]
              refine B.Till.done (by kernel_rfl) ?_
-- TILL 121 END
              have HK8 := Lib.hid (fun (X : World) (hb : Below w8.heap.size w8 X) => HKp.out X (below_two hH8 hb))
              have HB8 := Lib.hid (below_two HBr.out hH8)
              have HFy := Lib.hid (show V.firstN M i l = some (nm, x2) from by rw [HFx.out, if_pos hit])
              obtain ⟨s0, s1, s2⟩ := V.step_lt HI.out HK.out (by rw [HLx.out]; exact HFy.out)
              have HGn := Lib.hid s2
              have HIr := Lib.hid (fun (X : World) (hb : Below w1.heap.size w1 X) => HIh.out a X (HBw.out X hb) (by rw [← HAe.out]; exact V.over_over HI.out _) (list_kind HLe.out) (by omega))
              have hnz : nm.size ≤ 1000000 := by have := (V.goodB_parts s2).2.1; omega
              have ha3 : a.toNat ≤ 300 := by omega
              clear HFx HKp hH8 s0 s1 s2
              obtain ⟨c0, c1, c2, c3, c4, c5⟩ := HCs.out _ HB8.out
              go_upto_region 14 with (go_at_call 46; refine (HIr.out _ HB8.out).mono ?_; rintro e w9 ⟨s, er, rfl, hq, hb9⟩; have HQ := Lib.hid hq; have HB9 := Lib.hid (below_two HB8.out hb9); have HK9 := Lib.hid (HK8.out _ hb9); clear hq hb9)
              clear c0 c1 c2 c3 c4 c5 HIr HK8
              rcases HQ.out with ⟨rfl, ns, hd, hs⟩ | ⟨her, hs, hno⟩
              · have HJ := Lib.hid (show joinD s nm = V.pathOf (ns ++ [nm]) from by rw [hs]; exact path_more (V.dirN_good HI.out hd) nm)
                have hsz : s.size ≤ 1000000 := by rw [hs]; exact HSz.out a ns hd ha3
                have HDn := Lib.hid (show V.DirN M i (ns ++ [nm]) from V.DirN.step (e := x2) H0.out HK.out (by rw [HAe.out]; exact HLe.out) (by rw [HAe.out, HLx.out]; exact HFy.out) (by rw [HAe.out]; exact hd))
                have a0 := HK9.out.1
                clear hs hd HQ HK9
                go_wp2_with (go_at_call 98; refine (refJoin_any s nm _ hsz hnz).mono ?_; rintro e wA ⟨rfl, hw⟩; subst hw)
                go_ret2
                exact ⟨_, _, rfl, .inl ⟨rfl, _, HDn.out, HJ.out⟩, HBw.out _ HB9.out⟩
              · have d7 : (er != 0) = true := by simpa using her
                have HNa := Lib.hid (show ∀ ns, ¬ V.DirN M i ns from fun ns h => by
                  obtain ⟨n0, _, _, _, _, _, q⟩ := V.dirN_inv h H0.out
                  rw [HAe.out] at q
                  exact hno n0 q)
                have HEr := Lib.hid her
                clear hs hno her HQ HK9
                go_wp2_with fail
                go_ret2
                exact ⟨_, _, rfl, .inr ⟨HEr.out, rfl, HNa.out⟩, HBw.out _ HB9.out⟩
            · have d3 : (ov != i) = true := by simpa using hit
              have HF2 := Lib.hid (show V.firstN M i l = V.firstN M i (l.drop (k + 1)) from by rw [HFx.out, if_neg hit])
              clear hit HFx
-- TILL 122
              refine B.Till.region (z := 1000) (S := fun w' => Below wr.heap.size wr w') (by kernel_rfl) ((Below.refl _ _).drew) (fun hHeld => ?_)
              refine B.Till.takeA (i := 0) (oi := ⟨some 44, .move (.tmp 9), 133, "ref.go:24", #[], none⟩) (v := .slice (some ⟨gg, 0, none⟩) l.length cp5) rfl (by kernel_rfl) (by kernel_rfl) (by kernel_rfl) (by kernel_rfl) (fun _ _ _ h => h) (Or.inl ⟨by rfl, fun w0 hS0 => ?_⟩) (by assumption) ?_
              · go_simp
              try simp only [Act.put, lt, l0, ls]
              refine B.Till.takeA (i := 1) (oi := ⟨some 45, .move (.tmp 11), 3, "ref.go:24", #[], none⟩) (v := .int .i64 (k : Int)) rfl (by kernel_rfl) (by kernel_rfl) (by kernel_rfl) (by kernel_rfl) (fun _ _ _ h => h) (Or.inl ⟨by rfl, fun w0 hS0 => ?_⟩) (by assumption) ?_
              · go_simp
              try simp only [Act.put, lt, l0, ls]
              refine B.Till.takeA (i := 2) (oi := ⟨some 46, .indexAddr 133 (.tmp 44) (.tmp 45), 0, "ref.go:24", #[⟨0, .data⟩, ⟨1, .data⟩], none⟩) (v := .pointer (some ⟨gg, k * 2, none⟩)) rfl (by kernel_rfl) (by kernel_rfl) (by kernel_rfl) (by kernel_rfl) (fun _ _ _ h => h) (Or.inl ⟨by rfl, fun w0 hS0 => ?_⟩) (by assumption) ?_
              · have hkk : ¬ ((l.length : Int) ≤ (k : Int)) := (by omega); go_simp
              try simp only [Act.put, lt, l0, ls]
              refine B.Till.takeA (i := 3) (oi := ⟨some 47, .fieldAddr 177 (.tmp 46) 1, 0, "ref.go:24", #[⟨2, .data⟩], none⟩) (v := .pointer (some ⟨gg, k * 2 + 1, none⟩)) rfl (by kernel_rfl) (by kernel_rfl) (by kernel_rfl) (by kernel_rfl) (fun _ _ _ h => h) (Or.inl ⟨by rfl, fun w0 hS0 => ?_⟩) (by assumption) ?_
              · go_simp
              try simp only [Act.put, lt, l0, ls]
              refine B.Till.takeA (i := 4) (oi := ⟨some 48, .load 3 (.tmp 47), 3, "ref.go:24", #[⟨3, .data⟩], none⟩) (v := .int .i64 x2) rfl (by kernel_rfl) (by kernel_rfl) (by kernel_rfl) (by kernel_rfl) (fun _ _ _ h => h) (Or.inl ⟨by rfl, fun w0 hS0 => ?_⟩) (by assumption) ?_
              · have b4 := (HKp.out _ hS0).2; go_simp
              try simp only [Act.put, lt, l0, ls]
              refine B.Till.takeA (i := 5) (oi := ⟨some 49, .move (.tmp 1), 3, "ref.go:24", #[], none⟩) (v := .int .i64 i) rfl (by kernel_rfl) (by kernel_rfl) (by kernel_rfl) (by kernel_rfl) (fun _ _ _ h => h) (Or.inl ⟨by rfl, fun w0 hS0 => ?_⟩) (by assumption) ?_
              · go_simp
              try simp only [Act.put, lt, l0, ls]
              refine B.Till.takeA (i := 6) (oi := ⟨some 50, .binOp .neq 3 (.tmp 48) (.tmp 49) 3, 4, "ref.go:24", #[⟨4, .data⟩, ⟨5, .data⟩], none⟩) (v := .bool true) rfl (by kernel_rfl) (by kernel_rfl) (by kernel_rfl) (by kernel_rfl) (fun _ _ _ h => h) (Or.inl ⟨by rfl, fun w0 hS0 => ?_⟩) (by assumption) ?_
              · go_simp
              try simp only [Act.put, lt, l0, ls]
              refine B.Till.takeA (i := 7) (oi := ⟨some 51, .move (.tmp 50), 4, "ref.go:24", #[⟨6, .data⟩], none⟩) (v := .bool true) rfl (by kernel_rfl) (by kernel_rfl) (by kernel_rfl) (by kernel_rfl) (fun _ _ _ h => h) (Or.inl ⟨by rfl, fun w0 hS0 => ?_⟩) (by assumption) ?_
              · go_simp
              try simp only [Act.put, lt, l0, ls]
              refine B.Till.takeA (i := 8) (oi := ⟨some 52, .load 31 (.tmp 3), 31, "ref.go:24", #[⟨7, .guard⟩], some (7, true)⟩) (v := .agg #[rn, rl, rc, rd, ra, rf]) rfl (by kernel_rfl) (by kernel_rfl) (by kernel_rfl) (by kernel_rfl) (fun _ _ _ h => h) (yieldsIf_load_mid (by rfl) 31 (.tmp 3) rfl B0 0 rfl [rn, rl, rc, rd, ra, rf] _ (fun w0 hS0 => range_of (HXs.out _ (below_two HBr.out hS0))) Tryz.underlying31 rfl sizeFs6) (by assumption) ?_
              try simp only [Act.put, lt, l0, ls]
              refine B.Till.takeA (i := 9) (oi := ⟨some 53, .move (.tmp 9), 133, "ref.go:24", #[⟨7, .guard⟩], some (7, true)⟩) (v := .slice (some ⟨gg, 0, none⟩) l.length cp5) rfl (by kernel_rfl) (by kernel_rfl) (by kernel_rfl) (by kernel_rfl) (fun _ _ _ h => h) (Or.inl ⟨by rfl, fun w0 hS0 => ?_⟩) (by assumption) ?_
              · go_simp
              try simp only [Act.put, lt, l0, ls]
              refine B.Till.takeA (i := 10) (oi := ⟨some 54, .move (.tmp 11), 3, "ref.go:24", #[⟨7, .guard⟩], some (7, true)⟩) (v := .int .i64 (k : Int)) rfl (by kernel_rfl) (by kernel_rfl) (by kernel_rfl) (by kernel_rfl) (fun _ _ _ h => h) (Or.inl ⟨by rfl, fun w0 hS0 => ?_⟩) (by assumption) ?_
              · go_simp
              try simp only [Act.put, lt, l0, ls]
              refine B.Till.takeA (i := 11) (oi := ⟨some 55, .indexAddr 133 (.tmp 53) (.tmp 54), 0, "ref.go:24", #[⟨9, .data⟩, ⟨10, .data⟩, ⟨7, .guard⟩], some (7, true)⟩) (v := .pointer (some ⟨gg, k * 2, none⟩)) rfl (by kernel_rfl) (by kernel_rfl) (by kernel_rfl) (by kernel_rfl) (fun _ _ _ h => h) (Or.inl ⟨by rfl, fun w0 hS0 => ?_⟩) (by assumption) ?_
              · have hkk : ¬ ((l.length : Int) ≤ (k : Int)) := (by omega); go_simp
              try simp only [Act.put, lt, l0, ls]
              refine B.Till.takeA (i := 12) (oi := ⟨some 56, .fieldAddr 177 (.tmp 55) 1, 0, "ref.go:24", #[⟨11, .data⟩, ⟨7, .guard⟩], some (7, true)⟩) (v := .pointer (some ⟨gg, k * 2 + 1, none⟩)) rfl (by kernel_rfl) (by kernel_rfl) (by kernel_rfl) (by kernel_rfl) (fun _ _ _ h => h) (Or.inl ⟨by rfl, fun w0 hS0 => ?_⟩) (by assumption) ?_
              · go_simp
              try simp only [Act.put, lt, l0, ls]
              refine B.Till.takeA (i := 13) (oi := ⟨some 57, .load 3 (.tmp 56), 3, "ref.go:24", #[⟨12, .data⟩, ⟨7, .guard⟩], some (7, true)⟩) (v := .int .i64 x2) rfl (by kernel_rfl) (by kernel_rfl) (by kernel_rfl) (by kernel_rfl) (fun _ _ _ h => h) (Or.inl ⟨by rfl, fun w0 hS0 => ?_⟩) (by assumption) ?_
              · have b4 := (HKp.out _ hS0).2; go_simp
              try simp only [Act.put, lt, l0, ls]
              refine B.Till.takeA (i := 15) (oi := ⟨some 59, .move (.tmp 1), 3, "ref.go:24", #[⟨7, .guard⟩], some (7, true)⟩) (v := .int .i64 i) rfl (by kernel_rfl) (by kernel_rfl) (by kernel_rfl) (by kernel_rfl) (fun _ _ _ h => h) (Or.inl ⟨by rfl, fun w0 hS0 => ?_⟩) (by assumption) ?_
              · go_simp
              try simp only [Act.put, lt, l0, ls]
              refine B.Till.next (i := 14) (o := ⟨some 58, .call ⟨.value (.func 96), #[.tmp 52, .tmp 57], #[31, 3]⟩, 3, "ref.go:24", #[⟨8, .data⟩, ⟨13, .data⟩, ⟨7, .chain⟩, ⟨7, .guard⟩], some (7, true)⟩) (by kernel_rfl) rfl (fun K hK => ?_)
              go_simp
              refine (HOx.out _ (HBw.out _ (below_two HBr.out hHeld))).mono ?_
              rintro e w8 ⟨rfl, hb8⟩
              have hH8 : Below wr.heap.size wr w8 := below_two hHeld hb8
              clear hb8
              go_wp2_with fail
              refine hK.out _ _ (fun _ => hH8) ?_
              clear hK K
              try simp only [Act.put, lt, l0, ls]
              refine B.Till.takeA (i := 16) (oi := ⟨some 60, .binOp .neq 3 (.tmp 58) (.tmp 59) 3, 4, "ref.go:24", #[⟨14, .data⟩, ⟨15, .data⟩, ⟨7, .guard⟩], some (7, true)⟩) (v := .bool true) rfl (by kernel_rfl) (by kernel_rfl) (by kernel_rfl) (by kernel_rfl) (fun _ _ _ h => h) (Or.inl ⟨by rfl, fun w0 hS0 => ?_⟩) (by assumption) ?_
              · go_simp
              try simp only [Act.put, lt, l0, ls]
              refine B.Till.takeA (i := 17) (oi := ⟨some 61, .pick (.tmp 51) (.tmp 60) (.const (.bool false)), 4, "ref.go:24", #[⟨7, .data⟩, ⟨16, .data⟩], none⟩) (v := .bool true) rfl (by kernel_rfl) (by kernel_rfl) (by kernel_rfl) (by kernel_rfl) (fun _ _ _ h => h) (Or.inl ⟨by rfl, fun w0 hS0 => ?_⟩) (by assumption) ?_
              · go_simp
              try simp only [Act.put, lt, l0, ls]
              refine B.Till.done (by kernel_rfl) ?_
-- TILL 122 END
              have HBn := Lib.hid (below_two HB7.out hH8)
              go_wp2_with fail
              go_roundw
              case rel => exact ⟨k + 1, by omega, by go_num, HF2, HBn⟩
              case measure => simp [intOf]; omega
        · have e1 : decide ((k : Int) < (l.length : Int)) = false := decide_eq_false (by omega)
          have HNn := Lib.hid (HNo.out (.inr (by rw [HFi.out, List.drop_of_length_le (by omega)]; rfl)) H0.out)
          go_wp2_with fail
          go_ret2
          exact ⟨_, _, rfl, .inr ⟨by decide, rfl, HNn.out⟩, HBw.out _ HBr.out⟩
    · have d1 : (V.listE M a != 0) = true := by simpa using hle
      have HNn := Lib.hid (HNo.out (.inl hle) H0.out)
      have HLe := Lib.hid hle
      generalize V.listE M a = le at *
      clear hle
      go_wp2_with fail
      go_ret2
      exact ⟨_, _, rfl, .inr ⟨HLe.out, rfl, HNn.out⟩, HBw.out _ HB5.out⟩
theorem refDir_any {M : List V.Nd} {L : List V.It} (rn rl rc rd ra rf : Value) (hI : V.RI M) (hD : V.DU M) (hn : 0 < M.length) (hfw : M.length ≤ 300) (R : V.Rel M L) (hL : L.length ≤ 1000000) : ∀ (m : Nat) (i : Int) (w : World), V.Rs M L ⟨rn, rl, rc, rd, ra, rf⟩ w → V.overI M i = i → V.kindM M i = 2 → i.toNat ≤ m → m ≤ 1000 →
    Calls Tryz.prog 46 #[.agg #[rn, rl, rc, rd, ra, rf], .int .i64 i, .int .i64 (m : Int)] w fun e w' => ∃ s er, e = .returned (.tuple #[.string s, .int .i64 er]) ∧ DirQ M i s er ∧ Below w.heap.size w w' := by
  intro m
  induction m with
  | zero => intro i w H ho hk h0 h1; exact refDir_step rn rl rc rd ra rf hI hD hn hfw _ i w H R hL ho hk (by omega) (by omega) (fun a X _ _ _ q => by omega)
  | succ m ih =>
    intro i w H ho hk h0 h1
    refine refDir_step rn rl rc rd ra rf hI hD hn hfw _ i w H R hL ho hk (by omega) (by omega) (fun a X hb ha hka q => ?_)
    have := ih a X (H.keep hb) ha hka (by omega) (by omega)
    rw [show ((m + 1 : Nat) : Int) - 1 = (m : Int) by omega]
    exact this
end Go.Proofs.YtknfhphhcnbndaaGreatDoor.J
