/-
  Names in columns, and in rows with commas, by a model; that no row is wider than the width, but where a name alone is. Conditions: each fact's own.
-/
import Derived.Test.YtemnbleacjpfcaaDoorLWd
set_option linter.unusedVariables false
namespace Go.Proofs.YtemnbleacjpfcaaDoor.L
open Go.Proofs.YtemnbleacjpfcaaDoor.W

/-! ### the widest name -/
def wideL (l : List ByteArray) : Int := l.foldl (fun m s => max m (wd s 0)) 0
theorem wideL_snoc (l : List ByteArray) (s : ByteArray) : wideL (l ++ [s]) = max (wideL l) (wd s 0) := by simp [wideL]
theorem wideL_nil : wideL [] = 0 := rfl
theorem snoc_induct {α : Type} {P : List α → Prop} (h0 : P []) (h1 : ∀ l x, P l → P (l ++ [x])) (l : List α) : P l := by
  have : ∀ r : List α, P r.reverse := fun r => by
    induction r with
    | nil => exact h0
    | cons x r ih => rw [List.reverse_cons]; exact h1 _ _ ih
  have e := this l.reverse
  rwa [List.reverse_reverse] at e
theorem wideL_nonneg (l : List ByteArray) : 0 ≤ wideL l := by
  induction l using snoc_induct with
  | h0 => exact Int.le_refl _
  | h1 l x ih => rw [wideL_snoc]; omega
theorem wideL_mem {l : List ByteArray} {x : ByteArray} (h : x ∈ l) : wd x 0 ≤ wideL l := by
  induction l using snoc_induct with
  | h0 => cases h
  | h1 l y ih =>
    rw [wideL_snoc]
    rcases List.mem_append.1 h with h | h
    · have := ih h; omega
    · obtain rfl := List.mem_singleton.1 h; omega
theorem wideL_le {l : List ByteArray} {m : Int} (h0 : 0 ≤ m) (h : ∀ x ∈ l, wd x 0 ≤ m) : wideL l ≤ m := by
  induction l using snoc_induct with
  | h0 => exact h0
  | h1 l y ih =>
    rw [wideL_snoc]
    have h1 := ih (fun x hx => h x (List.mem_append_left _ hx))
    have h2 := h y (List.mem_append_right _ (List.mem_singleton.2 rfl))
    omega
theorem wideL_small {l : List ByteArray} {k : Nat} (h : ∀ x ∈ l, x.size ≤ k) : wideL l ≤ 2 * (k : Int) := wideL_le (by omega) fun x hx => by
  have h1 := (wd_bd x 0).2
  have h2 := h x hx
  omega

/-! ### columns -/
def atL (l : List ByteArray) (i : Nat) : ByteArray := l.getD i ByteArray.empty
theorem atL_mem {l : List ByteArray} {i : Nat} (h : i < l.length) : atL l i ∈ l := by
  unfold atL
  rw [List.getD_eq_getElem?_getD, List.getElem?_eq_getElem h]
  exact List.getElem_mem h
/-- The names below place k that f sends to column c. -/
def colF (l : List ByteArray) (f : Nat → Nat) (k c : Nat) : List ByteArray := ((List.range k).filter fun i => f i == c).map (atL l)
theorem colF_zero (l : List ByteArray) (f : Nat → Nat) (c : Nat) : colF l f 0 c = [] := rfl
theorem colF_here (l : List ByteArray) (f : Nat → Nat) (k c : Nat) (h : f k = c) : colF l f (k + 1) c = colF l f k c ++ [atL l k] := by
  unfold colF
  rw [List.range_succ, List.filter_append, List.filter_cons, if_pos (by rw [h]; exact beq_self_eq_true c), List.filter_nil, List.map_append]
  rfl
theorem colF_else (l : List ByteArray) (f : Nat → Nat) (k c : Nat) (h : f k ≠ c) : colF l f (k + 1) c = colF l f k c := by
  unfold colF
  rw [List.range_succ, List.filter_append, List.filter_cons, if_neg (by simpa using h), List.filter_nil, List.append_nil]
theorem colF_mem {l : List ByteArray} {f : Nat → Nat} {k c : Nat} {x : ByteArray} (hk : k ≤ l.length) (h : x ∈ colF l f k c) : x ∈ l := by
  obtain ⟨i, hi, rfl⟩ := List.mem_map.1 h
  exact atL_mem (by have := List.mem_range.1 (List.mem_filter.1 hi).1; omega)
theorem colF_len (l : List ByteArray) (f : Nat → Nat) (k c : Nat) : (colF l f k c).length ≤ k := by
  unfold colF
  rw [List.length_map]
  have := List.length_filter_le (fun i => f i == c) (List.range k)
  rwa [List.length_range] at this
def rowsN (n cols : Nat) : Nat := (n + cols - 1) / cols
def colOf (n cols : Nat) (across : Bool) (i : Nat) : Nat := if across = true then i % cols else i / rowsN n cols
def colsL (l : List ByteArray) (cols : Nat) (across : Bool) : List (List ByteArray) := (List.range cols).map (colF l (colOf l.length cols across) l.length)
theorem colsL_len (l : List ByteArray) (cols : Nat) (across : Bool) : (colsL l cols across).length = cols := by unfold colsL; rw [List.length_map, List.length_range]
theorem colsL_mem {l : List ByteArray} {cols : Nat} {across : Bool} {c : List ByteArray} (h : c ∈ colsL l cols across) {x : ByteArray} (hx : x ∈ c) : x ∈ l := by
  obtain ⟨i, _, rfl⟩ := List.mem_map.1 h
  exact colF_mem (Nat.le_refl _) hx
theorem colsL_few {l : List ByteArray} {cols : Nat} {across : Bool} {c : List ByteArray} (h : c ∈ colsL l cols across) : c.length ≤ l.length := by
  obtain ⟨i, _, rfl⟩ := List.mem_map.1 h
  exact colF_len _ _ _ _
/-- So many rows are the least that hold all names. -/
theorem rowsN_iff {n cols r : Nat} (hc : 0 < cols) : n ≤ r * cols ↔ rowsN n cols ≤ r := by
  unfold rowsN
  rw [Nat.div_le_iff_le_mul_add_pred hc]
  constructor
  · intro h; rw [Nat.mul_comm] at h; omega
  · intro h; rw [Nat.mul_comm]; omega
theorem rowsN_pos {n cols : Nat} (hn : 0 < n) (hc : 0 < cols) : 0 < rowsN n cols := by
  unfold rowsN
  exact Nat.div_pos (by omega) hc
theorem colOf_lt {n cols : Nat} {across : Bool} {i : Nat} (hi : i < n) (hc : 0 < cols) : colOf n cols across i < cols := by
  unfold colOf
  split
  · exact Nat.mod_lt _ hc
  · have hr := rowsN_pos (n := n) (by omega) hc
    rw [Nat.div_lt_iff_lt_mul hr, Nat.mul_comm]
    have := (rowsN_iff (n := n) (r := rowsN n cols) hc).2 (Nat.le_refl _)
    omega
/-- All columns together, each with two blanks more. -/
def sumW : List (List ByteArray) → Int
  | [] => 0
  | c :: C => wideL c + 2 + sumW C
theorem sumW_snoc (C : List (List ByteArray)) (c : List ByteArray) : sumW (C ++ [c]) = sumW C + (wideL c + 2) := by
  induction C with
  | nil => simp only [List.nil_append, sumW]; omega
  | cons d C ih => simp only [List.cons_append, sumW, ih]; omega
theorem sumW_nonneg (C : List (List ByteArray)) : 2 * (C.length : Int) ≤ sumW C := by
  induction C with
  | nil => simp [sumW]
  | cons d C ih => simp only [sumW, List.length_cons]; have := wideL_nonneg d; omega
theorem sumW_le {C : List (List ByteArray)} {m : Int} (h : ∀ c ∈ C, wideL c ≤ m) : sumW C ≤ (m + 2) * (C.length : Int) := by
  induction C with
  | nil => simp [sumW]
  | cons d C ih =>
    have h1 := ih (fun c hc => h c (List.mem_cons_of_mem _ hc))
    have h2 := h d List.mem_cons_self
    simp only [sumW, List.length_cons]
    have e : (m + 2) * ((C.length + 1 : Nat) : Int) = (m + 2) * (C.length : Int) + (m + 2) := by rw [Int.natCast_add, Int.mul_add]; simp
    omega
def fitsB (l : List ByteArray) (most : Int) (across : Bool) (cols : Nat) : Bool := decide (most ≤ 0) || decide (sumW (colsL l cols across) - 2 ≤ most)
/-- As many columns as fit, from so many down; at least one. -/
def bestF (l : List ByteArray) (most : Int) (across : Bool) : Nat → Nat
  | 0 => 1
  | 1 => 1
  | k + 2 => if fitsB l most across (k + 2) = true then k + 2 else bestF l most across (k + 1)
theorem best_step {l : List ByteArray} {most : Int} {across : Bool} {k : Nat} (h : 1 < k) : bestF l most across k = if fitsB l most across k = true then k else bestF l most across (k - 1) := by
  obtain ⟨j, rfl⟩ : ∃ j, k = j + 2 := ⟨k - 2, by omega⟩
  rw [bestF]
  rfl
theorem best_low {l : List ByteArray} {most : Int} {across : Bool} {k : Nat} (h : k ≤ 1) : bestF l most across k = 1 := by
  rcases (show k = 0 ∨ k = 1 by omega) with rfl | rfl <;> rfl
theorem best_ok (l : List ByteArray) (most : Int) (across : Bool) (k : Nat) : 1 ≤ bestF l most across k ∧ bestF l most across k ≤ max k 1 ∧ (bestF l most across k = 1 ∨ fitsB l most across (bestF l most across k) = true) := by
  induction k with
  | zero => exact ⟨Nat.le_refl _, by show 1 ≤ _; omega, .inl rfl⟩
  | succ k ih =>
    by_cases h : k = 0
    · subst h; exact ⟨Nat.le_refl _, by show 1 ≤ _; omega, .inl rfl⟩
    · rw [best_step (by omega)]
      by_cases hf : fitsB l most across (k + 1) = true
      · rw [if_pos hf]
        exact ⟨by omega, by omega, .inr hf⟩
      · rw [if_neg hf, Nat.add_sub_cancel]
        exact ⟨ih.1, by have := ih.2.1; omega, ih.2.2⟩
def bestL (l : List ByteArray) (most : Int) (across : Bool) : List (List ByteArray) := colsL l (bestF l most across l.length) across

/-! ### rows -/
def hasR : List (List ByteArray) → Nat → Bool
  | [], _ => false
  | d :: _, r => decide (r < d.length)
def gapN (c : List ByteArray) (x : ByteArray) : Nat := (wideL c + 2 - wd x 0).toNat
def rowT : List (List ByteArray) → Nat → ByteArray
  | [], _ => ByteArray.empty
  | c :: C, r => if r < c.length then (if hasR C r = true then atL c r ++ (blankL (gapN c (atL c r)) ++ rowT C r) else atL c r) else ByteArray.empty
def rowsOf (C : List (List ByteArray)) : List ByteArray := (List.range (C.headD []).length).map (rowT C)
def lrows (l : List ByteArray) (most : Int) (across : Bool) : List ByteArray := if l.length = 0 then [] else rowsOf (bestL l most across)
theorem gap_two {c : List ByteArray} {r : Nat} (h : r < c.length) : 2 ≤ gapN c (atL c r) ∧ wd (atL c r) 0 + gapN c (atL c r) = wideL c + 2 := by
  have h1 := wideL_mem (atL_mem h)
  unfold gapN
  omega
theorem rowT_wide : ∀ (C : List (List ByteArray)) (r : Nat), C ≠ [] → wd (rowT C r) 0 ≤ sumW C - 2
  | [], r, h => absurd rfl h
  | c :: C, r, _ => by
    have hn := sumW_nonneg C
    have hw := wideL_nonneg c
    unfold rowT
    by_cases hr : r < c.length
    · rw [if_pos hr]
      have hm := wideL_mem (atL_mem hr)
      by_cases hh : hasR C r = true
      · rw [if_pos hh]
        obtain ⟨g1, g2⟩ := gap_two hr
        have hC : C ≠ [] := by intro z; rw [z] at hh; cases hh
        have ih := rowT_wide C r hC
        rw [wd_gap _ _ _ (.inl (by omega))]
        simp only [sumW]
        omega
      · rw [if_neg hh]
        simp only [sumW]
        omega
    · rw [if_neg hr, wd_nil]
      simp only [sumW]
      omega
theorem rowT_one (c : List ByteArray) (r : Nat) : wd (rowT [c] r) 0 ≤ wideL c := by
  have := rowT_wide [c] r (by simp)
  simp only [sumW] at this
  omega
theorem rows_wide {l : List ByteArray} {most : Int} {across : Bool} (hm : 0 < most) {x : ByteArray} (hx : x ∈ lrows l most across) : wd x 0 ≤ max most (wideL l) := by
  unfold lrows at hx
  split at hx
  · cases hx
  · rename_i hl
    obtain ⟨r, _, rfl⟩ := List.mem_map.1 hx
    have hw := wideL_nonneg l
    obtain ⟨b1, b2, b3⟩ := best_ok l most across l.length
    have hne : bestL l most across ≠ [] := fun z => by
      have := colsL_len l (bestF l most across l.length) across
      unfold bestL at z
      rw [z] at this
      simp at this
      omega
    have h1 := rowT_wide (bestL l most across) r hne
    rcases b3 with b3 | b3
    · have hlen : (bestL l most across).length = 1 := by unfold bestL; rw [colsL_len]; exact b3
      obtain ⟨c, hc⟩ := List.length_eq_one_iff.1 hlen
      have hcm : c ∈ bestL l most across := by rw [hc]; exact List.mem_singleton.2 rfl
      have h2 : wideL c ≤ wideL l := wideL_le hw fun x hx => wideL_mem (colsL_mem hcm hx)
      rw [hc] at h1 ⊢
      simp only [sumW] at h1
      omega
    · unfold fitsB at b3
      unfold bestL at h1 ⊢
      simp only [Bool.or_eq_true, decide_eq_true_eq] at b3
      omega
theorem first_alone {l : List ByteArray} {across : Bool} (hl : 0 < l.length) : (colF l (colOf l.length l.length across) l.length 0).length = 1 := by
  have h1 : rowsN l.length l.length = 1 := by
    have a := rowsN_pos hl hl
    have b := (rowsN_iff (n := l.length) (r := 1) hl).1 (by omega)
    omega
  have hz : ∀ k, k < l.length → (colF l (colOf l.length l.length across) (k + 1) 0).length = 1 := fun k => by
    induction k with
    | zero => intro h; rw [colF_here _ _ _ _ (by unfold colOf; split <;> simp), colF_zero]; rfl
    | succ k ih =>
      intro h
      rw [colF_else]
      · exact ih (by omega)
      · unfold colOf
        split
        · rw [Nat.mod_eq_of_lt h]; omega
        · rw [h1, Nat.div_one]; omega
  have := hz (l.length - 1) (by omega)
  rwa [show l.length - 1 + 1 = l.length by omega] at this
theorem cols_head {l : List ByteArray} {cols : Nat} {across : Bool} (hc : 0 < cols) : (colsL l cols across).headD [] = colF l (colOf l.length cols across) l.length 0 := by
  unfold colsL
  obtain ⟨k, rfl⟩ : ∃ k, cols = k + 1 := ⟨cols - 1, by omega⟩
  rw [List.range_succ_eq_map, List.map_cons]
  rfl
theorem rows_len {l : List ByteArray} {most : Int} {across : Bool} : (lrows l most across).length ≤ l.length := by
  unfold lrows
  split
  · simp
  · obtain ⟨b1, _, _⟩ := best_ok l most across l.length
    unfold rowsOf bestL
    rw [List.length_map, List.length_range, cols_head (by omega)]
    exact colF_len _ _ _ _
theorem rows_free {l : List ByteArray} {most : Int} {across : Bool} (hm : most ≤ 0) (hl : 0 < l.length) : (lrows l most across).length = 1 := by
  have hb : bestF l most across l.length = l.length := by
    by_cases h : l.length = 1
    · rw [h]; rfl
    · rw [best_step (by omega), if_pos]
      unfold fitsB
      rw [decide_eq_true hm]
      rfl
  unfold lrows
  rw [if_neg (by omega)]
  unfold rowsOf bestL
  rw [List.length_map, List.length_range, hb, cols_head hl]
  exact first_alone hl

/-! ### rows with commas -/
def comItem (l : List ByteArray) (i : Nat) : ByteArray := if i + 1 < l.length then atL l i ++ ⟨#[44]⟩ else atL l i
/-- Behind i names: the rows that are over, and the one that isn't. -/
def comS (l : List ByteArray) (most : Int) : Nat → List ByteArray × ByteArray
  | 0 => ([], ByteArray.empty)
  | i + 1 => if i = 0 then ((comS l most i).1, comItem l i) else if most ≤ 0 ∨ wd (comS l most i).2 0 + 1 + wd (comItem l i) 0 ≤ most then ((comS l most i).1, (comS l most i).2 ++ (⟨#[32]⟩ ++ comItem l i)) else ((comS l most i).1 ++ [(comS l most i).2], comItem l i)
def commasL (l : List ByteArray) (most : Int) : List ByteArray := if l.length = 0 then [] else (comS l most l.length).1 ++ [(comS l most l.length).2]
theorem item_wide {l : List ByteArray} {i : Nat} (h : i < l.length) : wd (comItem l i) 0 ≤ wideL l + 1 := by
  have := wideL_mem (atL_mem h)
  unfold comItem
  split
  · rw [wd_app _ _ (fun _ => by decide), wd_byte _ (by decide), comma_one]
    omega
  · omega
theorem item_size {l : List ByteArray} {i k : Nat} (h : i < l.length) (hz : ∀ x ∈ l, x.size ≤ k) : (comItem l i).size ≤ k + 1 := by
  have := hz _ (atL_mem h)
  unfold comItem
  split
  · rw [app_size]
    show _ + 1 ≤ _
    omega
  · omega
theorem com_wide {l : List ByteArray} {most : Int} (hm : 0 < most) : ∀ i, i ≤ l.length → (∀ x ∈ (comS l most i).1, wd x 0 ≤ max most (wideL l + 1)) ∧ wd (comS l most i).2 0 ≤ max most (wideL l + 1)
  | 0, _ => ⟨fun x hx => (by cases hx), by show wd ByteArray.empty 0 ≤ _; rw [wd_nil]; omega⟩
  | i + 1, hi => by
    obtain ⟨h1, h2⟩ := com_wide (l := l) hm i (by omega)
    have h3 := item_wide (l := l) (i := i) (by omega)
    unfold comS
    split
    · exact ⟨h1, by show wd (comItem l i) 0 ≤ _; omega⟩
    · split
      · rename_i q
        refine ⟨h1, ?_⟩
        rw [wd_three _ _ _ (by decide) blank_one]
        rcases q with q | q <;> omega
      · refine ⟨fun x hx => ?_, by show wd (comItem l i) 0 ≤ _; omega⟩
        rcases List.mem_append.1 hx with hx | hx
        · exact h1 x hx
        · obtain rfl := List.mem_singleton.1 hx
          exact h2
theorem commas_wide {l : List ByteArray} {most : Int} (hm : 0 < most) {x : ByteArray} (hx : x ∈ commasL l most) : wd x 0 ≤ max most (wideL l + 1) := by
  unfold commasL at hx
  split at hx
  · cases hx
  · obtain ⟨h1, h2⟩ := com_wide (l := l) hm l.length (Nat.le_refl _)
    rcases List.mem_append.1 hx with hx | hx
    · exact h1 x hx
    · obtain rfl := List.mem_singleton.1 hx
      exact h2
theorem com_free {l : List ByteArray} {most : Int} (hm : most ≤ 0) : ∀ i, (comS l most i).1 = []
  | 0 => rfl
  | i + 1 => by
    have ih := com_free (l := l) hm i
    unfold comS
    split
    · exact ih
    · rw [if_pos (.inl hm)]
      exact ih
theorem commas_free {l : List ByteArray} {most : Int} (hm : most ≤ 0) (hl : 0 < l.length) : (commasL l most).length = 1 := by
  unfold commasL
  rw [if_neg (by omega), com_free hm]
  rfl
theorem com_size {l : List ByteArray} {most : Int} {k : Nat} (hz : ∀ x ∈ l, x.size ≤ k) : ∀ i, i ≤ l.length → (comS l most i).2.size ≤ (k + 2) * i ∧ (∀ x ∈ (comS l most i).1, x.size ≤ (k + 2) * i) ∧ (comS l most i).1.length ≤ i
  | 0, _ => ⟨Nat.zero_le _, fun x hx => (by cases hx), Nat.le_refl _⟩
  | i + 1, hi => by
    obtain ⟨h1, h2, h4⟩ := com_size (most := most) hz i (by omega)
    have h3 := item_size (l := l) (i := i) (by omega) hz
    have e : (k + 2) * (i + 1) = (k + 2) * i + (k + 2) := Nat.mul_succ _ _
    unfold comS
    split
    · exact ⟨by show (comItem l i).size ≤ _; omega, fun x hx => by have := h2 x hx; omega, by show (comS l most i).1.length ≤ i + 1; omega⟩
    · split
      · refine ⟨?_, fun x hx => by have := h2 x hx; omega, by show (comS l most i).1.length ≤ i + 1; omega⟩
        show ((comS l most i).2 ++ (⟨#[32]⟩ ++ comItem l i)).size ≤ _
        rw [app_size, one_size]
        omega
      · refine ⟨by show (comItem l i).size ≤ _; omega, fun x hx => ?_, by show (_ ++ [_]).length ≤ _; rw [List.length_append]; simp; omega⟩
        rcases List.mem_append.1 hx with hx | hx
        · have := h2 x hx; omega
        · obtain rfl := List.mem_singleton.1 hx
          omega
/-! ### sizes -/
theorem rowT_size {k : Nat} : ∀ (C : List (List ByteArray)) (r : Nat), (∀ c ∈ C, ∀ x ∈ c, x.size ≤ k) → (rowT C r).size ≤ (3 * k + 2) * C.length
  | [], r, _ => Nat.zero_le _
  | c :: C, r, h => by
    have ih := rowT_size C r (fun d hd => h d (List.mem_cons_of_mem _ hd))
    have hc := h c List.mem_cons_self
    have hw := wideL_small hc
    have e : (3 * k + 2) * (c :: C).length = (3 * k + 2) * C.length + (3 * k + 2) := Nat.mul_succ _ _
    rw [e]
    unfold rowT
    split
    · rename_i hr
      have h1 := hc _ (atL_mem hr)
      split
      · obtain ⟨g1, g2⟩ := gap_two hr
        have := (wd_bd (atL c r) 0).1
        rw [app_size, app_size, blankL_size]
        omega
      · omega
    · exact Nat.zero_le _
end Go.Proofs.YtemnbleacjpfcaaDoor.L
