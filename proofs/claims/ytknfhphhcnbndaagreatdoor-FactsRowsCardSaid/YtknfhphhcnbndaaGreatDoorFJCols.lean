/-
  Six columns of texts in an array of slices: each in a block of its own; a text behind a column, a text of a column set. What facts' tableOf returns. Conditions: the rows lie in memory, at most 100000 of them; the table of powers of ten lies.
-/
import Derived.Test.YtknfhphhcnbndaaGreatDoorFJCells
import Derived.Deep.AppendLies
set_option linter.unusedVariables false
set_option linter.unusedSimpArgs false
namespace Go.Proofs.YtknfhphhcnbndaaGreatDoor.J
open Go.Proofs.YtknfhphhcnbndaaGreatDoor.B
open Go.RowKit

def up {α : Type} (f : Nat → α) (i : Nat) (x : α) : Nat → α := fun j => if j = i then x else f j
theorem up_here {α : Type} (f : Nat → α) (i : Nat) (x : α) : up f i x i = x := if_pos rfl
theorem up_else {α : Type} {f : Nat → α} {i j : Nat} {x : α} (h : j ≠ i) : up f i x j = f j := if_neg h
def slJ (G C : Nat → Nat) (X : Nat → List ByteArray) (c : Nat) : Value := .slice (some ⟨G c, 0, none⟩) (X c).length (C c)
def tabA (G C : Nat → Nat) (X : Nat → List ByteArray) : Array Value := #[slJ G C X 0, slJ G C X 1, slJ G C X 2, slJ G C X 3, slJ G C X 4, slJ G C X 5]
theorem tab_get (G C : Nat → Nat) (X : Nat → List ByteArray) {c : Nat} (hc : c < 6) : (tabA G C X)[c]? = some (slJ G C X c) := by
  rcases six_cases hc with rfl | rfl | rfl | rfl | rfl | rfl <;> rfl
theorem tab_set (G C : Nat → Nat) (X : Nat → List ByteArray) {c : Nat} (hc : c < 6) (g cap : Nat) (Y : List ByteArray) : (tabA G C X).setIfInBounds c (.slice (some ⟨g, 0, none⟩) Y.length cap) = tabA (up G c g) (up C c cap) (up X c Y) := by
  rcases six_cases hc with rfl | rfl | rfl | rfl | rfl | rfl <;> rfl
theorem tab_same (G C : Nat → Nat) (X : Nat → List ByteArray) {c : Nat} (hc : c < 6) {Y : List ByteArray} (hl : Y.length = (X c).length) : tabA G C (up X c Y) = tabA G C X := by
  have key : ∀ d, slJ G C (up X c Y) d = slJ G C X d := fun d => by
    unfold slJ up
    by_cases h : d = c
    · rw [if_pos h, hl, h]
    · rw [if_neg h]
  unfold tabA
  rw [key 0, key 1, key 2, key 3, key 4, key 5]
/-- Six columns: their slices in the block T, the texts of each in a block of its own. -/
structure Cols (B T : Nat) (G C : Nat → Nat) (X : Nat → List ByteArray) (w : World) : Prop where
  blk : w.heap[T]? = some (.cells (tabA G C X) 106 (0, 0))
  own : ∀ c, c < 6 → w.ownsRow B 9 1 (slJ G C X c) (X c).length (strs (X c))
  sep : ∀ c d, c < 6 → d < 6 → c ≠ d → G c ≠ G d
theorem Cols.keep {B T : Nat} {G C : Nat → Nat} {X : Nat → List ByteArray} {w w' : World} (h : Cols B T G C X w) (hb : Below w.heap.size w w') : Cols B T G C X w' :=
  ⟨(hb.block _ (heap_lt h.blk)).trans h.blk, fun c hc => owns_to (h.own c hc) hb, h.sep⟩
theorem Cols.congr {B T : Nat} {G C : Nat → Nat} {X Y : Nat → List ByteArray} {w : World} (h : Cols B T G C X w) (he : ∀ c, c < 6 → X c = Y c) : Cols B T G C Y w := by
  have key : ∀ c, c < 6 → slJ G C X c = slJ G C Y c := fun c hc => by unfold slJ; rw [he c hc]
  refine ⟨?_, fun c hc => ?_, h.sep⟩
  · rw [h.blk]
    unfold tabA
    rw [key 0 (by decide), key 1 (by decide), key 2 (by decide), key 3 (by decide), key 4 (by decide), key 5 (by decide)]
  · rw [← key c hc, ← he c hc]
    exact h.own c hc
theorem Cols.cell {B T : Nat} {G C : Nat → Nat} {X : Nat → List ByteArray} {w : World} (h : Cols B T G C X w) {c : Nat} (hc : c < 6) : w.cell? ⟨T, c, none⟩ = some (slJ G C X c) ∧ w.frozen? ⟨T, c, none⟩ = false := by
  refine ⟨?_, frozen_of_row w T c _ _ h.blk⟩
  rw [cell_of_row _ _ _ _ _ _ h.blk]
  exact tab_get G C X hc
theorem Cols.text {B T : Nat} {G C : Nat → Nat} {X : Nat → List ByteArray} {w : World} (h : Cols B T G C X w) {c i : Nat} (hc : c < 6) {s : ByteArray} (hs : (X c)[i]? = some s) : w.cell? ⟨G c, i, none⟩ = some (.string s) ∧ w.frozen? ⟨G c, i, none⟩ = false :=
  ⟨owns_cell (h.own c hc) (by unfold strs; rw [List.getElem?_map, hs]; rfl), owns_frozen (h.own c hc) i⟩
theorem Cols.far {B T : Nat} {G C : Nat → Nat} {X : Nat → List ByteArray} {w : World} (h : Cols B T G C X w) {c : Nat} (hc : c < 6) : G c ≠ T := fun e => by
  obtain ⟨cur, hk⟩ := owns_type (h.own c hc) (k := G c) rfl
  rw [e, h.blk] at hk
  simp only [Option.some.injEq, Obj.cells.injEq] at hk
  exact absurd hk.2.1 (by decide)
theorem Cols.lt {B T : Nat} {G C : Nat → Nat} {X : Nat → List ByteArray} {w : World} (h : Cols B T G C X w) {c : Nat} (hc : c < 6) : B ≤ G c ∧ G c < w.heap.size := (h.own c hc).lt _ rfl
theorem Cols.grown {B T : Nat} {G C : Nat → Nat} {X : Nat → List ByteArray} {w w2 : World} (h : Cols B T G C X w) {c : Nat} (hc : c < 6) (hgrow : w.grownBy w2 (slJ G C X c).ownBlock) : w2.cell? ⟨T, c, none⟩ = some (slJ G C X c) ∧ w2.frozen? ⟨T, c, none⟩ = false := by
  have hT : w2.heap[T]? = some (.cells (tabA G C X) 106 (0, 0)) := (hgrow.block T (heap_lt h.blk) (fun e => h.far hc (Option.some.inj e).symm)).trans h.blk
  refine ⟨?_, frozen_of_row w2 T c _ _ hT⟩
  rw [cell_of_row _ _ _ _ _ _ hT]
  exact tab_get G C X hc
/-- A text more behind a column. -/
theorem Cols.app {B T : Nat} {G C : Nat → Nat} {X : Nat → List ByteArray} {w w2 : World} (h : Cols B T G C X w) {c : Nat} (hc : c < 6) {g cap : Nat} {s : ByteArray} (hgrow : w.grownBy w2 (slJ G C X c).ownBlock) (hat : (slJ G C X c).ownBlock = some g ∨ g = w.heap.size)
    (hown : w2.ownsRow B 9 1 (.slice (some ⟨g, 0, none⟩) ((X c).length + 1) cap) ((X c).length + 1) (strs (X c) ++ [.string s])) :
    Cols B T (up G c g) (up C c cap) (up X c (X c ++ [s])) (w2.setCell ⟨T, c, none⟩ (.slice (some ⟨g, 0, none⟩) ((X c).length + 1) cap)) := by
  have hT : w2.heap[T]? = some (.cells (tabA G C X) 106 (0, 0)) := (hgrow.block T (heap_lt h.blk) (fun e => h.far hc (Option.some.inj e).symm)).trans h.blk
  have hgT : g ≠ T := fun e => by
    obtain ⟨cur, hk⟩ := owns_type hown (k := g) rfl
    rw [e, hT] at hk
    simp only [Option.some.injEq, Obj.cells.injEq] at hk
    exact absurd hk.2.1 (by decide)
  refine ⟨?_, fun d hd => ?_, fun d e hd he hne => ?_⟩
  · rw [heap_setCell_same _ _ _ _ _ _ hT]
    have := tab_set G C X hc g cap (X c ++ [s])
    rw [List.length_append] at this
    exact congrArg (fun a => some (Obj.cells a 106 (0, 0))) this
  · by_cases hdc : d = c
    · subst hdc
      have e : slJ (up G d g) (up C d cap) (up X d (X d ++ [s])) d = .slice (some ⟨g, 0, none⟩) ((X d).length + 1) cap := by
        unfold slJ
        rw [up_here, up_here, up_here, List.length_append]
        rfl
      rw [e, up_here, List.length_append, strs_app]
      exact owns_at hown fun k hk => heap_setCell_other _ _ _ _ (by obtain rfl : g = k := Option.some.inj hk; exact hgT)
    · have e : slJ (up G c g) (up C c cap) (up X c (X c ++ [s])) d = slJ G C X d := by
        unfold slJ
        rw [up_else hdc, up_else hdc, up_else hdc]
      rw [e, up_else hdc]
      refine owns_at (h.own d hd) fun k hk => ?_
      obtain rfl : G d = k := Option.some.inj hk
      rw [heap_setCell_other _ _ _ _ (h.far hd)]
      exact hgrow.block _ (h.lt hd).2 (fun q => h.sep d c hd hc hdc (Option.some.inj q))
  · have hnew : ∀ x, x < 6 → x ≠ c → G x ≠ g := fun x hx hxc e => by
      rcases hat with q | q
      · have q : G c = g := Option.some.inj q
        exact h.sep x c hx hc hxc (by rw [e, q])
      · have := (h.lt hx).2
        omega
    by_cases hdc : d = c
    · rw [hdc, up_here, up_else (fun q => hne (by rw [hdc, q]))]
      exact fun q => hnew e he (fun r => hne (by rw [hdc, r])) q.symm
    · rw [up_else hdc]
      by_cases hec : e = c
      · rw [hec, up_here]
        exact hnew d hd hdc
      · rw [up_else hec]
        exact h.sep d e hd he hne
/-- A text of a column set. -/
theorem Cols.put {B T : Nat} {G C : Nat → Nat} {X : Nat → List ByteArray} {w : World} (h : Cols B T G C X w) {c i : Nat} (hc : c < 6) (hi : i < (X c).length) (s : ByteArray) :
    Cols B T G C (up X c ((X c).set i s)) (w.setCell ⟨G c, i, none⟩ (.string s)) := by
  have hl : ((X c).set i s).length = (X c).length := List.length_set
  refine ⟨?_, fun d hd => ?_, h.sep⟩
  · rw [heap_setCell_other _ _ _ _ (Ne.symm (h.far hc)), tab_same G C X hc hl]
    exact h.blk
  · by_cases hdc : d = c
    · subst hdc
      have e : slJ G C (up X d ((X d).set i s)) d = slJ G C X d := by
        unfold slJ
        rw [up_here, hl]
      rw [e, up_here, hl]
      have := owns_setCell (h.own d hd) (j := i) (by rw [strs_len]; exact hi) (.string s)
      have e2 : (strs (X d)).set i (.string s) = strs ((X d).set i s) := by unfold strs; rw [List.map_set]
      rwa [e2] at this
    · have e : slJ G C (up X c ((X c).set i s)) d = slJ G C X d := by
        unfold slJ
        rw [up_else hdc]
      rw [e, up_else hdc]
      refine owns_at (h.own d hd) fun k hk => ?_
      obtain rfl : G d = k := Option.some.inj hk
      exact heap_setCell_other _ _ _ _ (fun q => h.sep d c hd hc hdc q)
/-! ### tableOf -/
theorem infoStr : (Tryz.prog.info? 9).map (fun i => (i.zero, i.size, i.bytes)) = some (some (.string ⟨#[]⟩), 1, 16) := by kernel_rfl
theorem sizeTab : (Tryz.prog.info? 106).map (·.size) = some 6 := by kernel_rfl
theorem sizeRw : (Tryz.prog.info? 38).map (·.size) = some 6 := by kernel_rfl
theorem tab_one (G C : Nat → Nat) (X : Nat → List ByteArray) : (tabA G C X).all (·.oneCell') = true := by simp [tabA, slJ, Value.oneCell']
theorem idx6 (r : Row6) {c : Nat} (hc : c < 6) (w : World) : (Instr.index 110 (.agg #[.string (r 0), .string (r 1), .string (r 2), .string (r 3), .string (r 4), .string (r 5)]) (.int .i64 (c : Int))).run Tryz.prog w = .ok (.string (r c)) w := by
  rcases six_cases hc with rfl | rfl | rfl | rfl | rfl | rfl
  all_goals kernel_rfl
theorem arrT (b c : Nat) (w : World) (hc : c < 6) : (Instr.indexAt 106 (.pointer (some ⟨b, 0, none⟩)) (.int .i64 (c : Int))).run Tryz.prog w = .ok (.pointer (some ⟨b, c, none⟩)) w := by
  have hu : Tryz.prog.underlying 106 = some (.array (Tryz.prog.arrayLen 106) (Tryz.prog.elem 106)) := by kernel_rfl
  have hl : Tryz.prog.arrayLen 106 = 6 := by kernel_rfl
  have hs : ∀ W : World, (sizeOf (Tryz.prog.elem 106)).run Tryz.prog W = .ok 1 W := fun W => by kernel_rfl
  rw [run_indexAt_array _ _ _ _ _ hu, hl, if_pos ⟨by omega, by omega⟩, hs]
  show Result.ok _ w = _
  rw [Addr.add_mid, Int.toNat_natCast, Nat.mul_one, Nat.zero_add]
/-- The columns of some rows: the head first. -/
def colsX (R : List Rw) (c : Nat) : List ByteArray := (rowsJ R).map fun r => r c
theorem colsX_len (R : List Rw) (c : Nat) : (colsX R c).length = R.length + 1 := by unfold colsX rowsJ; simp
theorem colsX_snoc (R : List Rw) (r : Rw) (c : Nat) : colsX (R ++ [r]) c = colsX R c ++ [textsJ r c] := by unfold colsX rowsJ; simp
/-- In the midst of a row. -/
def midX (R : List Rw) (r : Rw) (c : Nat) : Nat → List ByteArray := fun j => if j < c then colsX R j ++ [textsJ r j] else colsX R j
theorem mid_zero (R : List Rw) (r : Rw) : midX R r 0 = colsX R := by
  funext j
  unfold midX
  rw [if_neg (by omega)]
theorem mid_at (R : List Rw) (r : Rw) (c : Nat) : midX R r c c = colsX R c := by
  unfold midX
  rw [if_neg (by omega)]
theorem mid_step (R : List Rw) (r : Rw) (c : Nat) : up (midX R r c) c (midX R r c c ++ [textsJ r c]) = midX R r (c + 1) := by
  funext j
  unfold up
  by_cases h : j = c
  · subst h
    rw [if_pos rfl, mid_at]
    unfold midX
    rw [if_pos (by omega)]
  · rw [if_neg h]
    unfold midX
    by_cases h2 : j < c
    · rw [if_pos h2, if_pos (by omega)]
    · rw [if_neg h2, if_neg (by omega)]
theorem mid_end (R : List Rw) (r : Rw) (c : Nat) (hc : c < 6) : midX R r 6 c = colsX (R ++ [r]) c := by
  unfold midX
  rw [if_pos hc, colsX_snoc]
theorem take_rw {R : List Rw} {k : Nat} {r : Rw} (h : R[k]? = some r) : R.take (k + 1) = R.take k ++ [r] := by
  obtain ⟨hk, he⟩ := List.getElem?_eq_some_iff.1 h
  rw [List.take_succ_eq_append_getElem hk, he]
/-- Seven blocks more. -/
theorem seven_new (w : World) (a0 a1 a2 a3 a4 a5 a6 : Obj) : ∀ W, W = ((((((w.alloc a0).alloc a1).alloc a2).alloc a3).alloc a4).alloc a5).alloc a6 →
    W.heap[w.heap.size]? = some a0 ∧ W.heap[w.heap.size + 1]? = some a1 ∧ W.heap[w.heap.size + 2]? = some a2 ∧ W.heap[w.heap.size + 3]? = some a3 ∧ W.heap[w.heap.size + 4]? = some a4 ∧ W.heap[w.heap.size + 5]? = some a5 ∧ W.heap[w.heap.size + 6]? = some a6 ∧ Below w.heap.size w W := by
  rintro W rfl
  have s : ∀ (v : World) (o : Obj), (v.alloc o).heap.size = v.heap.size + 1 := fun v o => by simp
  have n : ∀ (v : World) (o : Obj) (k : Nat), v.heap.size = k → (v.alloc o).heap[k]? = some o := fun v o k h => by rw [← h]; exact heap_alloc_new _ _
  have d : ∀ (v : World) (o : Obj) (k : Nat) (x : Obj), v.heap[k]? = some x → (v.alloc o).heap[k]? = some x := fun v o k x h => (heap_alloc_old _ _ (heap_lt h)).trans h
  have b : ∀ (v : World) (o : Obj), Below w.heap.size w v → Below w.heap.size w (v.alloc o) := fun v o h => h.alloc h.size _
  refine ⟨?_, ?_, ?_, ?_, ?_, ?_, ?_, ?_⟩
  · exact d _ _ _ _ (d _ _ _ _ (d _ _ _ _ (d _ _ _ _ (d _ _ _ _ (d _ _ _ _ (n _ _ _ rfl))))))
  · exact d _ _ _ _ (d _ _ _ _ (d _ _ _ _ (d _ _ _ _ (d _ _ _ _ (n _ _ _ (by simp only [s]))))))
  · exact d _ _ _ _ (d _ _ _ _ (d _ _ _ _ (d _ _ _ _ (n _ _ _ (by simp only [s])))))
  · exact d _ _ _ _ (d _ _ _ _ (d _ _ _ _ (n _ _ _ (by simp only [s]))))
  · exact d _ _ _ _ (d _ _ _ _ (n _ _ _ (by simp only [s])))
  · exact d _ _ _ _ (n _ _ _ (by simp only [s]))
  · exact n _ _ _ (by simp only [s])
  · exact b _ _ (b _ _ (b _ _ (b _ _ (b _ _ (b _ _ (b _ _ (Below.refl _ _)))))))
theorem owns_one {w : World} {g B : Nat} {s : ByteArray} (h : w.heap[g]? = some (.cells #[.string s] 9 (0, 0))) (hb : B ≤ g) : w.ownsRow B 9 1 (.slice (some ⟨g, 0, none⟩) 1 1) 1 (strs [s]) :=
  ⟨rfl, .inr ⟨g, 1, #[.string s], rfl, hb, h, Nat.le_refl _, by unfold maxLen; omega, rfl, rfl⟩⟩
def ToRel (R : List Rw) (B T2 T : Nat) (w2 w : World) (v : Value) (wr : World) : Prop :=
  ∃ (k : Nat) (G C : Nat → Nat), k ≤ R.length ∧ v = .int .i64 (k : Int) ∧ Hid (Cols B T G C (colsX (R.take k)) wr) ∧ Hid (wr.heap[T2]? = w2.heap[T2]?) ∧ Hid (Below B w wr)
def CoRel (R : List Rw) (r : Rw) (B T2 T : Nat) (w2 w : World) (v : Value) (wr : World) : Prop :=
  ∃ (c : Nat) (G C : Nat → Nat), c ≤ 6 ∧ v = .int .i64 (c : Int) ∧ Hid (Cols B T G C (midX R r c) wr) ∧ Hid (wr.heap[T2]? = w2.heap[T2]?) ∧ Hid (Below B w wr)

set_option maxRecDepth 100000 in
set_option maxHeartbeats 16000000 in
theorem tableOf_any (R : List Rw) (ra : Option Addr) (rc : Nat) (w : World) (ht : N.Tab w) (HR : RowL 6 rwC w ra R) (hl : R.length ≤ 100000) (hR : ∀ r ∈ R, OkR r) :
    Calls Tryz.prog 48 #[.slice ra R.length rc] w fun e w' => ∃ (G C : Nat → Nat), e = .returned (.agg (tabA G C (colsX R))) ∧ (∀ c, c < 6 → w'.ownsRow w.heap.size 9 1 (slJ G C (colsX R) c) (colsX R c).length (strs (colsX R c))) ∧ (∀ c d, c < 6 → d < 6 → c ≠ d → G c ≠ G d) ∧ Below w.heap.size w w' := by
  obtain ⟨i0, hi0, hz0, hz1, hz2⟩ := info_parts infoStr
  have HRl := Lib.hid HR
  have HTx := Lib.hid (fun (r : Rw) (hr : r ∈ R) (W : World) (hb : Below w.heap.size w W) => texts_any r W (ht.keep hb) (hR r hr))
  clear HR ht hR
  go_enter Tryz.func48, Tryz.ntmps48
  go_upto_region 1 with fail
  have HX1 := Lib.hid (heap_alloc_new w (.cells #[.slice none 0 0, .slice none 0 0, .slice none 0 0, .slice none 0 0, .slice none 0 0, .slice none 0 0] 106))
  have HB1 := Lib.hid (show Below w.heap.size w (w.alloc (.cells #[.slice none 0 0, .slice none 0 0, .slice none 0 0, .slice none 0 0, .slice none 0 0, .slice none 0 0] 106)) from (Below.refl _ _).alloc (Nat.le_refl _) _)
  generalize w.alloc (.cells #[.slice none 0 0, .slice none 0 0, .slice none 0 0, .slice none 0 0, .slice none 0 0, .slice none 0 0] 106) = w1 at HX1 HB1 ⊢
  obtain ⟨T2, hT2⟩ : ∃ T2, w.heap.size = T2 := ⟨_, rfl⟩
  have HT2 := Lib.hid hT2
  rw [hT2] at HX1 ⊢
  clear hT2
  go_upto_region 2 with (refine wpList_store_row rfl 106 (.tmp 3) (.tmp 14) rfl _ #[_, _, _, _, _, _] rfl rfl 106 _ (heap_alloc_new _ _) sizeTab rfl (by simp [Value.oneCell']) ?_; rw [World.setRow_alloc_new])
  generalize hW : (((((((w1.alloc _).alloc _).alloc _).alloc _).alloc _).alloc _).alloc _ : World) = W
  have H7 := Lib.hid (seven_new w1 _ _ _ _ _ _ _ W hW.symm)
  clear hW
  obtain ⟨T, hT⟩ : ∃ T, w1.heap.size + 6 = T := ⟨_, rfl⟩
  have e6 : w1.heap.size + 1 + 1 + 1 + 1 + 1 + 1 = T := by omega
  rw [e6]
  clear e6
  have HW := Lib.hid (show Below w.heap.size w W from below_two HB1.out H7.out.2.2.2.2.2.2.2)
  have hle : w.heap.size ≤ w1.heap.size := HB1.out.size
  have HC0 := Lib.hid (show Cols w.heap.size T (fun c => w1.heap.size + c) (fun _ => 1) (colsX (R.take 0)) W from by
    refine ⟨by rw [← hT]; exact H7.out.2.2.2.2.2.2.1, fun c hc => ?_, fun c d _ _ hne q => hne (by simpa using q)⟩
    rcases six_cases hc with rfl | rfl | rfl | rfl | rfl | rfl
    · exact owns_one H7.out.1 hle
    · exact owns_one H7.out.2.1 (show w.heap.size ≤ w1.heap.size + 1 from by omega)
    · exact owns_one H7.out.2.2.1 (show w.heap.size ≤ w1.heap.size + 2 from by omega)
    · exact owns_one H7.out.2.2.2.1 (show w.heap.size ≤ w1.heap.size + 3 from by omega)
    · exact owns_one H7.out.2.2.2.2.1 (show w.heap.size ≤ w1.heap.size + 4 from by omega)
    · exact owns_one H7.out.2.2.2.2.2.1 (show w.heap.size ≤ w1.heap.size + 5 from by omega))
  have HXT := Lib.hid ((H7.out.2.2.2.2.2.2.2.block _ (heap_lt HX1.out)).trans HX1.out)
  have HTT := Lib.hid (show T2 < T ∧ w.heap.size ≤ T from by
    have := heap_lt HX1.out
    omega)
  clear H7 hT hle HB1 HX1
  go_wp2_with fail
  go_loopw [17] (ToRel R w.heap.size T2 T W w) (fun v _ => R.length - (intOf v).toNat)
  case atStart => exact ⟨0, _, _, Nat.zero_le _, rfl, HC0, Lib.hid rfl, HW⟩
  case round =>
    clear HC0
    obtain ⟨k, G, C, hk, rfl, HC, HZ, HBr⟩ := hrel
    by_cases hlt : k < R.length
    · have d0 : decide ((k : Int) < (R.length : Int)) = true := decide_eq_true (by omega)
      obtain ⟨r, hr⟩ : ∃ r, R[k]? = some r := ⟨_, List.getElem?_eq_getElem hlt⟩
      obtain ⟨g, o, hra, _, hrg⟩ := (HRl.out.keep HBr.out).at_ hr
      subst hra
      have HRg := Lib.hid hrg
      have HTk := Lib.hid (take_rw hr)
      have HTr := Lib.hid (HTx.out r (List.mem_of_getElem? hr))
      have hlR : (R.take k).length = k := by rw [List.length_take]; omega
      have HLn := Lib.hid (show ∀ c, (midX (R.take k) r c c).length = k + 1 from fun c => by rw [mid_at, colsX_len, hlR])
      have HMz := Lib.hid (mid_zero (R.take k) r)
      have HMs := Lib.hid (mid_step (R.take k) r)
      have HMe := Lib.hid (mid_end (R.take k) r)
      clear hr hrg hlR
      unfold rwC at HRg HTr
      unfold r6 at HTr
      go_upto_region 5 with (first
        | (refine wpList_load_mid rfl 38 (.tmp 19) rfl g (o + k * 6) rfl _ _ HRg.out Tryz.underlying38 rfl sizeRw ?_)
        | (refine wpList_store_row rfl 38 (.tmp 5) (.tmp 20) rfl wr.heap.size #[.int .i64 r.dev, .int .i64 r.all, .int .i64 r.used, .int .i64 r.left, .int .i64 r.pct, .string r.at_] rfl rfl 38 _ (heap_alloc_new _ _) sizeRw rfl (by simp [Value.oneCell']) ?_; rw [World.setRow_alloc_new]))
      have HX8 := Lib.hid (heap_alloc_new wr (.cells #[.int .i64 r.dev, .int .i64 r.all, .int .i64 r.used, .int .i64 r.left, .int .i64 r.pct, .string r.at_] 38))
      have HA8 := Lib.hid (show Below wr.heap.size wr (wr.alloc (.cells #[.int .i64 r.dev, .int .i64 r.all, .int .i64 r.used, .int .i64 r.left, .int .i64 r.pct, .string r.at_] 38)) from (Below.refl _ _).alloc (Nat.le_refl _) _)
      generalize wr.alloc (.cells _ 38) = w8 at HX8 HA8 ⊢
      generalize wr.heap.size = B8 at HX8 ⊢
      have HB8 := Lib.hid (show Below w.heap.size w w8 from HBr.out.trans (HA8.out.mono HBr.out.size))
      go_wp2_with (refine wpList_load_row rfl 38 (.tmp 5) rfl B8 rfl 38 _ (0, 0) _ HX8.out Tryz.underlying38 rfl sizeRw ?_)
      refine (HTr.out _ (by with_reducible exact HB8.out)).mono ?_
      rintro e w9 ⟨rfl, hb9⟩
      have HB9 := Lib.hid (show Below w.heap.size w w9 from HB8.out.trans (hb9.mono HB8.out.size))
      have HC9 := Lib.hid (show Cols w.heap.size T G C (midX (R.take k) r 0) w9 from by rw [HMz.out]; exact (HC.out.keep HA8.out).keep hb9)
      have HZ9 := Lib.hid (show w9.heap[T2]? = W.heap[T2]? from by
        have h1 := heap_lt (HZ.out.trans HXT.out)
        rw [hb9.block _ (Nat.lt_of_lt_of_le h1 HA8.out.size), HA8.out.block _ h1]
        exact HZ.out)
      clear hb9 HC HZ HBr HX8 HA8 HRg HTr HB8
      go_wp2_with fail
      go_loopw [23] (CoRel (R.take k) r w.heap.size T2 T W w) (fun v _ => 6 - (intOf v).toNat)
      case atStart => exact ⟨0, _, _, by omega, rfl, HC9, HZ9, HB9⟩
      case round =>
        clear HC9 HZ9 HB9
        obtain ⟨c, G', C', hc, rfl, HC, HZ, HBr⟩ := hrel
        by_cases hc6 : c < 6
        · have d1 : decide ((c : Int) < 6) = true := decide_eq_true (by omega)
          have hidx := fun w => idx6 (textsJ r) hc6 w
          obtain ⟨tx, htx⟩ : ∃ tx, textsJ r c = tx := ⟨_, rfl⟩
          have HMc := Lib.hid (HMs.out c)
          rw [htx] at hidx HMc
          go_upto_region 8 with fail
          clear hidx
          have harr := fun w => arrT T c w hc6
          have hT6 := (HC.out.cell hc6).1
          have hln := HLn.out c
          have HOw := Lib.hid (HC.out.own c hc6)
          unfold slJ at hT6
          rw [hln] at hT6
          have HAa := Lib.hid (show Below wr.heap.size wr (wr.alloc (.cells #[.string tx] 9)) from (Below.refl _ _).alloc (Nat.le_refl _) _)
          go_wp2_with (at_builtin; go_loud (refine wpList_append_lies _ rfl (.tmp 30) (.tmp 32) 40 rfl w.heap.size 9 i0 (.string ⟨#[]⟩) 1 16 Tryz.underlying40 hi0 hz0 hz1 hz2 rfl (by decide) (.slice (some ⟨G' c, 0, none⟩) (k + 1) (C' c)) (k + 1) (strs (midX (R.take k) r c c)) rfl (by have q := owns_to HOw.out HAa.out; unfold slJ at q; rw [hln] at q; exact q) ⟨wr.heap.size, 0, none⟩ 1 1 [.string tx] rfl rfl (World.news_of_block (heap_alloc_new _ _)) (by intro u hu; simp at hu; subst hu; rfl) (by decide) (by unfold maxLen; omega) (by omega) (Nat.le_trans HBr.out.size HAa.out.size) _ rfl ?_; intro g1 cap1 w11 hown hgrow hat hlt1; obtain ⟨hq1, hq2⟩ := (HC.out.keep HAa.out).grown hc6 (by unfold slJ; rw [hln]; exact hgrow); unfold slJ at hq1; rw [hln] at hq1))
          have HCn := Lib.hid ((HC.out.keep HAa.out).app hc6 (s := tx) (by unfold slJ; rw [hln]; exact hgrow) (by unfold slJ; rw [hln]; exact hat) (by rw [hln]; exact hown))
          rw [hln, HMc.out] at HCn
          have HBn := Lib.hid (((HBr.out.trans (HAa.out.mono HBr.out.size)).grown hgrow (Nat.le_trans HBr.out.size HAa.out.size) (fun j hj => by cases hj; exact (HC.out.lt hc6).1)).setCell (p := ⟨T, c, none⟩) HTT.out.2 (.slice (some ⟨g1, 0, none⟩) (k + 1 + 1) cap1))
          have HZn := Lib.hid (show (w11.setCell ⟨T, c, none⟩ (.slice (some ⟨g1, 0, none⟩) (k + 1 + 1) cap1)).heap[T2]? = W.heap[T2]? from by
            have h1 := HZ.out.trans HXT.out
            rw [heap_setCell_other _ _ _ _ (Nat.ne_of_lt HTT.out.1), hgrow.block T2 (Nat.lt_of_lt_of_le (heap_lt h1) HAa.out.size) (show some T2 ≠ some (G' c) from ne_type (e := 9) (t := 106) HOw.out h1 (by decide)), HAa.out.block _ (heap_lt h1)]
            exact HZ.out)
          go_roundw
          case rel => exact ⟨c + 1, _, _, by omega, by simp, HCn, HZn, HBn⟩
          case measure => simp [intOf]; omega
        · obtain rfl : c = 6 := by omega
          have d1 : decide (((6 : Nat) : Int) < 6) = false := by decide
          have HCe := Lib.hid (show Cols w.heap.size T G' C' (colsX (R.take (k + 1))) wr from by rw [HTk.out]; exact HC.out.congr HMe.out)
          go_wp2_with fail
          go_roundw
          case rel => exact ⟨k + 1, _, _, by omega, by simp, HCe, HZ, HBr⟩
          case measure => simp [intOf]; omega
    · obtain rfl : k = R.length := by omega
      have d0 : decide (((R.length : Nat) : Int) < (R.length : Int)) = false := decide_eq_false (by omega)
      rw [List.take_length] at HC
      have HXe := Lib.hid (HZ.out.trans HXT.out)
      have HT2' := HT2.out
      go_wp2_with (first
        | (refine wpList_load_row rfl 106 (.tmp 3) rfl T rfl 106 _ (0, 0) _ HC.out.blk Tryz.underlying106 rfl sizeTab ?_)
        | (refine wpList_store_row rfl 106 (.tmp 2) (.tmp 37) rfl T2 (tabA G C (colsX R)) rfl rfl 106 _ HXe.out sizeTab rfl (tab_one _ _ _) ?_))
      refine bodyPost_ret (v := .agg (tabA G C (colsX R))) ?_ rfl ⟨G, C, rfl, fun c hc => ?_, HC.out.sep, below_setR HBr.out (by omega) _⟩
      · exact results_cell_row Tryz.results48 _ _ T2 _ _ _ _ rfl (setRow_heap _ _ _ _ _ _ HXe.out) Tryz.underlying106 rfl sizeTab
      · refine owns_at (HC.out.own c hc) fun j hj => setRow_other _ _ _ _ ?_
        intro e
        exact ne_type (HC.out.own c hc) HXe.out (by decide) (by rw [hj, e])
end Go.Proofs.YtknfhphhcnbndaaGreatDoor.J
