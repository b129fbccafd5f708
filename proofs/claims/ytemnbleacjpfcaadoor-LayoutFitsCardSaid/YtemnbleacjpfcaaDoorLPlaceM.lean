/-
  Where each name stands, by a model: the names in order, each put behind what its row holds, make the rows. Conditions: each fact's own.
-/
import Derived.Test.YtemnbleacjpfcaaDoorLTakeM
set_option linter.unusedVariables false
namespace Go.Proofs.YtemnbleacjpfcaaDoor.L
open Go.Proofs.YtemnbleacjpfcaaDoor.W

/-! ### how many came before -/
def cntF (f : Nat → Nat) (c : Nat) : Nat → Nat
  | 0 => 0
  | k + 1 => cntF f c k + (if f k = c then 1 else 0)
theorem cnt_div (m c : Nat) (hm : 0 < m) : ∀ k, cntF (fun j => j / m) c k = min k (c * m + m) - min k (c * m)
  | 0 => by simp [cntF]
  | k + 1 => by
    rw [cntF, cnt_div m c hm k]
    have e : (k / m = c) ↔ c * m ≤ k ∧ k < c * m + m := by
      rw [Nat.div_eq_iff hm]
      constructor
      · rintro ⟨h1, h2⟩; omega
      · rintro ⟨h1, h2⟩; omega
    split
    · rename_i h
      have := e.1 h
      omega
    · rename_i h
      have : ¬(c * m ≤ k ∧ k < c * m + m) := fun q => h (e.2 q)
      omega
theorem cnt_div_own (m k : Nat) (hm : 0 < m) : cntF (fun j => j / m) (k / m) k = k % m := by
  rw [cnt_div m _ hm]
  have h1 := Nat.div_add_mod k m
  have h2 := Nat.mod_lt k hm
  rw [Nat.mul_comm] at h1
  omega
theorem cnt_mod (m r : Nat) (hr : r < m) : ∀ k, cntF (fun j => j % m) r k = k / m + (if r < k % m then 1 else 0)
  | 0 => by simp [cntF]
  | k + 1 => by
    rw [cntF, cnt_mod m r hr k]
    have h1 := Nat.div_add_mod k m
    have h2 := Nat.mod_lt k (show 0 < m by omega)
    by_cases hs : k % m + 1 < m
    · have e1 : (k + 1) / m = k / m := by
        refine (Nat.div_eq_iff (by omega)).2 ?_
        rw [Nat.mul_comm]; omega
      have e2 : (k + 1) % m = k % m + 1 := by
        have h3 := Nat.div_add_mod (k + 1) m
        rw [e1] at h3
        omega
      rw [e1, e2]
      split <;> split <;> split <;> omega
    · have e1 : (k + 1) / m = k / m + 1 := by
        refine (Nat.div_eq_iff (by omega)).2 ?_
        rw [Nat.add_mul, Nat.mul_comm (k / m)]; omega
      have e2 : (k + 1) % m = 0 := by
        have h3 := Nat.div_add_mod (k + 1) m
        rw [e1, Nat.mul_add] at h3
        omega
      rw [e1, e2]
      split <;> split <;> split <;> omega
theorem cnt_mod_own (m k : Nat) (hm : 0 < m) : cntF (fun j => j % m) (k % m) k = k / m := by
  rw [cnt_mod m _ (Nat.mod_lt k hm), if_neg (by omega)]
  omega

/-! ### places -/
/-- f and g give each name its column and row: as many of its column came before as its row's number says, and the other way about. -/
structure Places (n : Nat) (f g : Nat → Nat) : Prop where
  col : ∀ k, k < n → cntF f (f k) k = g k
  row : ∀ k, k < n → cntF g (g k) k = f k
theorem places_div (n m : Nat) (hm : 0 < m) : Places n (fun i => i / m) (fun i => i % m) := ⟨fun k _ => cnt_div_own m k hm, fun k _ => cnt_mod_own m k hm⟩
theorem Places.turn {n : Nat} {f g : Nat → Nat} (h : Places n f g) : Places n g f := ⟨h.row, h.col⟩
def rowOf (n cols : Nat) (across : Bool) (i : Nat) : Nat := if across = true then i / cols else i % rowsN n cols
theorem places_any {n cols : Nat} {across : Bool} (hn : 0 < n) (hc : 0 < cols) : Places n (colOf n cols across) (rowOf n cols across) := by
  cases across with
  | false => exact places_div n _ (rowsN_pos hn hc)
  | true => exact (places_div n _ hc).turn
theorem rowOf_lt {n cols : Nat} {across : Bool} {i : Nat} (hi : i < n) (hc : 0 < cols) : rowOf n cols across i < rowsN n cols := by
  unfold rowOf
  split
  · refine (Nat.div_lt_iff_lt_mul hc).2 ?_
    have := (rowsN_iff (n := n) (r := rowsN n cols) hc).2 (Nat.le_refl _)
    omega
  · exact Nat.mod_lt _ (rowsN_pos (by omega) hc)

/-- The places below k that f sends to c. -/
def idxF (f : Nat → Nat) (k c : Nat) : List Nat := (List.range k).filter fun i => f i == c
theorem idx_step (f : Nat → Nat) (k c : Nat) : idxF f (k + 1) c = if f k = c then idxF f k c ++ [k] else idxF f k c := by
  unfold idxF
  rw [List.range_succ, List.filter_append, List.filter_cons]
  by_cases h : f k = c
  · rw [if_pos (by rw [h]; exact beq_self_eq_true c), if_pos h]; rfl
  · rw [if_neg (by simpa using h), if_neg h, List.filter_nil, List.append_nil]
theorem idx_len (f : Nat → Nat) (c : Nat) : ∀ k, (idxF f k c).length = cntF f c k
  | 0 => rfl
  | k + 1 => by
    rw [idx_step, cntF, ← idx_len f c k]
    split <;> simp
theorem col_idx (l : List ByteArray) (f : Nat → Nat) (k c : Nat) : colF l f k c = (idxF f k c).map (atL l) := rfl
theorem idx_mem {f : Nat → Nat} {k c i : Nat} (h : i ∈ idxF f k c) : i < k ∧ f i = c := by
  have := List.mem_filter.1 h
  exact ⟨List.mem_range.1 this.1, by simpa using this.2⟩
/-- A name stands in its column where its row's number says. -/
theorem idx_at {f g : Nat → Nat} : ∀ {k : Nat}, (∀ i, i < k → cntF f (f i) i = g i) → ∀ i, i < k → (idxF f k (f i))[g i]? = some i
  | 0, _, i, hi => by omega
  | k + 1, h, i, hi => by
    rw [idx_step]
    by_cases hk : i = k
    · subst hk
      rw [if_pos rfl, List.getElem?_append_right (by rw [idx_len, h i hi]; exact Nat.le_refl _), idx_len, h i hi, Nat.sub_self]
      rfl
    · have ih := idx_at (k := k) (fun j hj => h j (by omega)) i (by omega)
      split
      · rw [List.getElem?_append_left (List.getElem?_eq_some_iff.1 ih).1]
        exact ih
      · exact ih
/-- Whatever stands in a column stands in the row that its number there says. -/
theorem idx_of {f g : Nat → Nat} {k : Nat} (h : ∀ i, i < k → cntF f (f i) i = g i) {c r i : Nat} (hi : (idxF f k c)[r]? = some i) : i < k ∧ f i = c ∧ g i = r := by
  obtain ⟨h1, h2⟩ := idx_mem (List.mem_of_getElem? hi)
  refine ⟨h1, h2, ?_⟩
  have e := idx_at h i h1
  rw [h2] at e
  have nd : (idxF f k c).Nodup := List.Nodup.sublist List.filter_sublist List.nodup_range
  exact (List.getElem?_inj (List.getElem?_eq_some_iff.1 e).1 nd).1 (e.trans hi.symm)

/-! ### a row's names, and what stands between -/
abbrev Ent := ByteArray × Nat
def joinT : List Ent → ByteArray
  | [] => ByteArray.empty
  | [x] => x.1
  | x :: y :: r => x.1 ++ (blankL x.2 ++ joinT (y :: r))
def entsR : List (List ByteArray) → Nat → List Ent
  | [], _ => []
  | c :: C, r => if r < c.length then (atL c r, gapN c (atL c r)) :: entsR C r else []
theorem has_ents (C : List (List ByteArray)) (r : Nat) : hasR C r = true ↔ entsR C r ≠ [] := by
  cases C with
  | nil => simp [hasR, entsR]
  | cons c C =>
    show decide (r < c.length) = true ↔ (if r < c.length then _ else []) ≠ []
    by_cases h : r < c.length
    · rw [if_pos h, decide_eq_true h]; simp
    · rw [if_neg h, decide_eq_false h]; simp
theorem row_join : ∀ (C : List (List ByteArray)) (r : Nat), rowT C r = joinT (entsR C r)
  | [], r => rfl
  | c :: C, r => by
    unfold rowT entsR
    by_cases h : r < c.length
    · rw [if_pos h, if_pos h]
      by_cases hh : hasR C r = true
      · rw [if_pos hh, row_join C r]
        obtain ⟨y, t, e⟩ := List.exists_cons_of_ne_nil ((has_ents C r).1 hh)
        rw [e]
        rfl
      · rw [if_neg hh]
        have e : entsR C r = [] := Classical.byContradiction fun q => hh ((has_ents C r).2 q)
        rw [e]
        rfl
    · rw [if_neg h, if_neg h]
      rfl
def lastG : List Ent → Nat
  | [] => 0
  | [x] => x.2
  | _ :: y :: r => lastG (y :: r)
theorem lastG_snoc (x : Ent) : ∀ es : List Ent, lastG (es ++ [x]) = x.2
  | [] => rfl
  | [y] => rfl
  | y :: z :: r => by
    have := lastG_snoc x (z :: r)
    exact this
theorem bytes_assoc (a b c : ByteArray) : a ++ b ++ c = a ++ (b ++ c) := ByteArray.ext (Array.toList_inj.1 (by rw [dapp, dapp, dapp, dapp, List.append_assoc]))
theorem nil_app (a : ByteArray) : ByteArray.empty ++ a = a := ByteArray.ext (Array.toList_inj.1 (by rw [dapp]; rfl))
theorem blank_none (a : ByteArray) : blankL 0 ++ a = a := ByteArray.ext (Array.toList_inj.1 (by rw [dapp]; rfl))
theorem join_snoc (x : Ent) : ∀ es : List Ent, joinT (es ++ [x]) = joinT es ++ (blankL (lastG es) ++ x.1)
  | [] => by
    show x.1 = ByteArray.empty ++ (blankL 0 ++ x.1)
    rw [nil_app, blank_none]
  | [y] => rfl
  | y :: z :: r => by
    have h := join_snoc x (z :: r)
    show y.1 ++ (blankL y.2 ++ joinT (z :: r ++ [x])) = y.1 ++ (blankL y.2 ++ joinT (z :: r)) ++ (blankL (lastG (z :: r)) ++ x.1)
    rw [h, bytes_assoc, bytes_assoc]
/-- What stands in row r behind k names. -/
def entsK (l : List ByteArray) (cols : Nat) (across : Bool) (k r : Nat) : List Ent := (idxF (rowOf l.length cols across) k r).map fun i => (atL l i, gapN (colF l (colOf l.length cols across) l.length (colOf l.length cols across i)) (atL l i))
theorem entsK_zero (l : List ByteArray) (cols : Nat) (across : Bool) (r : Nat) : entsK l cols across 0 r = [] := rfl
theorem entsK_here (l : List ByteArray) (cols : Nat) (across : Bool) (k : Nat) : entsK l cols across (k + 1) (rowOf l.length cols across k) = entsK l cols across k (rowOf l.length cols across k) ++ [(atL l k, gapN (colF l (colOf l.length cols across) l.length (colOf l.length cols across k)) (atL l k))] := by
  unfold entsK
  rw [idx_step, if_pos rfl, List.map_append]
  rfl
theorem entsK_else (l : List ByteArray) (cols : Nat) (across : Bool) (k r : Nat) (h : rowOf l.length cols across k ≠ r) : entsK l cols across (k + 1) r = entsK l cols across k r := by
  unfold entsK
  rw [idx_step, if_neg h]
theorem ents_from {l : List ByteArray} {cols : Nat} {across : Bool} (hn : 0 < l.length) (hc : 0 < cols) (r : Nat) : ∀ d c, c + d = cols → entsR ((List.range' c d).map (colF l (colOf l.length cols across) l.length)) r = (entsK l cols across l.length r).drop c
  | 0, c, h => by
    have P := places_any (across := across) hn hc
    have e : (entsK l cols across l.length r).length ≤ c := by
      unfold entsK
      rw [List.length_map]
      rcases Nat.lt_or_ge c (idxF (rowOf l.length cols across) l.length r).length with q | q
      · have h2 := idx_of P.row (List.getElem?_eq_getElem q)
        have h3 := colOf_lt (cols := cols) (across := across) h2.1 hc
        omega
      · exact q
    rw [List.drop_of_length_le e]
    rfl
  | d + 1, c, h => by
    have P := places_any (across := across) hn hc
    have ih := ents_from (across := across) hn hc r d (c + 1) (by omega)
    rw [List.range'_succ, List.map_cons]
    unfold entsR
    by_cases hr : r < (colF l (colOf l.length cols across) l.length c).length
    · rw [if_pos hr, ih]
      rw [col_idx, List.length_map] at hr
      have h1 := idx_of P.col (List.getElem?_eq_getElem hr)
      have h2 := idx_at P.row _ h1.1
      rw [h1.2.1, h1.2.2] at h2
      have e : (entsK l cols across l.length r)[c]? = some (atL l (idxF (colOf l.length cols across) l.length c)[r], gapN (colF l (colOf l.length cols across) l.length c) (atL l (idxF (colOf l.length cols across) l.length c)[r])) := by
        unfold entsK
        rw [List.getElem?_map, h2]
        simp only [Option.map_some]
        rw [h1.2.1]
      have ea : atL (colF l (colOf l.length cols across) l.length c) r = atL l (idxF (colOf l.length cols across) l.length c)[r] := by
        rw [col_idx]
        unfold atL
        rw [List.getD_eq_getElem?_getD, List.getElem?_map, List.getElem?_eq_getElem hr]
        rfl
      obtain ⟨q1, q2⟩ := List.getElem?_eq_some_iff.1 e
      rw [List.drop_eq_getElem_cons q1, q2, ea]
    · rw [if_neg hr, List.drop_of_length_le]
      rcases Nat.lt_or_ge c (entsK l cols across l.length r).length with q | q
      · exfalso
        unfold entsK at q
        rw [List.length_map] at q
        have h1 := idx_of P.row (List.getElem?_eq_getElem q)
        have h2 := idx_at P.col _ h1.1
        rw [h1.2.1, h1.2.2] at h2
        refine hr ?_
        rw [col_idx, List.length_map]
        exact (List.getElem?_eq_some_iff.1 h2).1
      · exact q
/-- The rows are what all names, in order, have made of them. -/
theorem rowT_names {l : List ByteArray} {cols : Nat} {across : Bool} (hn : 0 < l.length) (hc : 0 < cols) (r : Nat) : rowT (colsL l cols across) r = joinT (entsK l cols across l.length r) := by
  rw [row_join]
  have := ents_from (across := across) hn hc r cols 0 (by omega)
  rw [List.drop_zero, ← List.range_eq_range'] at this
  unfold colsL
  rw [this]
theorem first_rows {l : List ByteArray} {cols : Nat} {across : Bool} (hn : 0 < l.length) (hc : 0 < cols) (hm : cols ≤ l.length) : ((colsL l cols across).headD []).length = rowsN l.length cols := by
  rw [cols_head hc, col_idx, List.length_map, idx_len]
  have hr := rowsN_pos hn hc
  cases across with
  | false =>
    have e : colOf l.length cols false = fun j => j / rowsN l.length cols := rfl
    have := rowsN_le (n := l.length) (cols := cols) hc
    rw [e, cnt_div _ _ hr]
    omega
  | true =>
    have e : colOf l.length cols true = fun j => j % cols := rfl
    rw [e, cnt_mod cols 0 hc]
    have h1 := rowsN_alt (n := l.length) (d := cols) hn hc
    rw [← h1]
    have h2 := Nat.div_add_mod l.length cols
    have h3 := Nat.mod_lt l.length hc
    split
    · rename_i q
      have : (l.length - 1) / cols = l.length / cols := by
        refine (Nat.div_eq_iff hc).2 ?_
        rw [Nat.mul_comm]; omega
      omega
    · rename_i q
      have : (l.length - 1) / cols = l.length / cols - 1 := by
        have hp : 1 ≤ l.length / cols := (Nat.le_div_iff_mul_le hc).2 (by omega)
        refine (Nat.div_eq_iff hc).2 ?_
        have e4 : (l.length / cols - 1) * cols + cols = cols * (l.length / cols) := by
          rw [Nat.mul_comm cols, ← Nat.succ_mul]
          congr 1
          omega
        omega
      have hp : 1 ≤ l.length / cols := (Nat.le_div_iff_mul_le hc).2 (by omega)
      omega
/-- The rows by the program's way. -/
def prowsL (l : List ByteArray) (cols : Nat) (across : Bool) : List ByteArray := (List.range (rowsN l.length cols)).map fun r => joinT (entsK l cols across l.length r)
theorem lrows_names {l : List ByteArray} {most : Int} {across : Bool} (hn : 0 < l.length) : lrows l most across = prowsL l (bestF l most across l.length) across := by
  obtain ⟨b1, b2, _⟩ := best_ok l most across l.length
  unfold lrows rowsOf bestL prowsL
  rw [if_neg (by omega), first_rows hn (by omega) (by omega)]
  exact List.map_congr_left fun r _ => rowT_names hn (by omega) r
end Go.Proofs.YtemnbleacjpfcaaDoor.L
