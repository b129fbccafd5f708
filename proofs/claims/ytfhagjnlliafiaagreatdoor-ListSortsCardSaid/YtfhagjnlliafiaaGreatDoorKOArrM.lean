/-
  Two sorted lists of places merged, by a strict order.
  Conditions: each fact's own.
-/
import Derived.Test.YtfhagjnlliafiaaGreatDoorKIListM
set_option linter.unusedVariables false
namespace Go.Proofs.YtfhagjnlliafiaaGreatDoor.O
def mergeL (A : Nat → Nat → Bool) : List Nat → List Nat → List Nat
  | [], ys => ys
  | x :: xs, [] => x :: xs
  | x :: xs, y :: ys => if A x y = true then x :: mergeL A xs (y :: ys) else y :: mergeL A (x :: xs) ys
termination_by xs ys => xs.length + ys.length
theorem merge_nil (A : Nat → Nat → Bool) (xs : List Nat) : mergeL A xs [] = xs := by
  cases xs with
  | nil => rw [mergeL]
  | cons x xs => rw [mergeL]
theorem merge_left {A : Nat → Nat → Bool} {x y : Nat} {xs ys : List Nat} (h : A x y = true) : mergeL A (x :: xs) (y :: ys) = x :: mergeL A xs (y :: ys) := by rw [mergeL, if_pos h]
theorem merge_right {A : Nat → Nat → Bool} {x y : Nat} {xs ys : List Nat} (h : A x y = false) : mergeL A (x :: xs) (y :: ys) = y :: mergeL A (x :: xs) ys := by rw [mergeL, if_neg (by rw [h]; decide)]
theorem merge_perm (A : Nat → Nat → Bool) : ∀ xs ys : List Nat, (mergeL A xs ys).Perm (xs ++ ys)
  | [], ys => by rw [mergeL]; exact List.Perm.refl _
  | x :: xs, [] => by rw [mergeL, List.append_nil]
  | x :: xs, y :: ys => by
    rw [mergeL]
    split
    · exact (merge_perm A xs (y :: ys)).cons x
    · refine ((merge_perm A (x :: xs) ys).cons y).trans ?_
      exact (List.perm_middle (l₁ := x :: xs) (l₂ := ys) (a := y)).symm
termination_by xs ys => xs.length + ys.length
theorem merge_sorted {n : Nat} {A : Nat → Nat → Bool} (hA : Strict n A) : ∀ xs ys : List Nat, (∀ i ∈ xs, i < n) → (∀ i ∈ ys, i < n) → (∀ i ∈ xs, i ∉ ys) → (xs.Pairwise fun i k => A i k = true) → (ys.Pairwise fun i k => A i k = true) → (mergeL A xs ys).Pairwise fun i k => A i k = true
  | [], ys, _, _, _, _, h2 => by rw [mergeL]; exact h2
  | x :: xs, [], _, _, _, h1, _ => by rw [mergeL]; exact h1
  | x :: xs, y :: ys, hx, hy, hd, h1, h2 => by
    obtain ⟨p1, p2⟩ := List.pairwise_cons.1 h1
    obtain ⟨q1, q2⟩ := List.pairwise_cons.1 h2
    have hxn := hx x List.mem_cons_self
    have hyn := hy y List.mem_cons_self
    have hxs : ∀ i ∈ xs, i < n := fun i hi => hx i (List.mem_cons_of_mem _ hi)
    have hys : ∀ i ∈ ys, i < n := fun i hi => hy i (List.mem_cons_of_mem _ hi)
    rw [mergeL]
    split
    · rename_i h
      refine List.pairwise_cons.2 ⟨fun k hk => ?_, merge_sorted hA xs (y :: ys) hxs hy (fun i hi => hd i (List.mem_cons_of_mem _ hi)) p2 h2⟩
      rcases List.mem_append.1 ((merge_perm A xs (y :: ys)).mem_iff.1 hk) with z | z
      · exact p1 k z
      · rcases List.mem_cons.1 z with z | z
        · rw [z]; exact h
        · exact hA.tri x y k hxn hyn (hys k z) h (q1 k z)
    · rename_i h
      have hyx : A y x = true := by
        have hne : x ≠ y := fun z => hd x List.mem_cons_self (by rw [z]; exact List.mem_cons_self)
        rcases hA.tot x y hxn hyn hne with z | z
        · exact absurd z h
        · exact z
      refine List.pairwise_cons.2 ⟨fun k hk => ?_, merge_sorted hA (x :: xs) ys hx hys (fun i hi hm => hd i hi (List.mem_cons_of_mem _ hm)) h1 q2⟩
      rcases List.mem_append.1 ((merge_perm A (x :: xs) ys).mem_iff.1 hk) with z | z
      · rcases List.mem_cons.1 z with z | z
        · rw [z]; exact hyx
        · exact hA.tri y x k hyn hxn (hxs k z) hyx (p1 k z)
      · exact q1 k z
termination_by xs ys => xs.length + ys.length
def SortOf (A : Nat → Nat → Bool) (xs r : List Nat) : Prop := r.Perm xs ∧ r.Pairwise fun i k => A i k = true
theorem SortOf.one {A : Nat → Nat → Bool} {xs : List Nat} (h : xs.length ≤ 1) : SortOf A xs xs := by
  refine ⟨List.Perm.refl _, ?_⟩
  match xs, h with
  | [], _ => exact List.Pairwise.nil
  | [x], _ => exact List.pairwise_singleton _ _
theorem SortOf.halves {n : Nat} {A : Nat → Nat → Bool} (hA : Strict n A) {xs r s : List Nat} (k : Nat) (hn : ∀ i ∈ xs, i < n) (hd : xs.Nodup) (h1 : SortOf A (xs.take k) r) (h2 : SortOf A (xs.drop k) s) : SortOf A xs (mergeL A r s) := by
  have hsp : xs.take k ++ xs.drop k = xs := List.take_append_drop k xs
  have hdd : ∀ i ∈ xs.take k, i ∉ xs.drop k := by
    rw [← hsp] at hd
    intro i hi hj
    exact (List.nodup_append.1 hd).2.2 i hi i hj rfl
  refine ⟨(merge_perm A r s).trans (((h1.1.append h2.1)).trans (by rw [hsp])), merge_sorted hA r s (fun i hi => hn i (List.mem_of_mem_take (h1.1.mem_iff.1 hi))) (fun i hi => hn i (List.mem_of_mem_drop (h2.1.mem_iff.1 hi))) (fun i hi hj => hdd i (h1.1.mem_iff.1 hi) (h2.1.mem_iff.1 hj)) h1.2 h2.2⟩
theorem SortOf.range {n : Nat} {A : Nat → Nat → Bool} {r : List Nat} (h : SortOf A (List.range n) r) : SortP n A r := h
end Go.Proofs.YtfhagjnlliafiaaGreatDoor.O
namespace Go.Proofs.YtfhagjnlliafiaaGreatDoor.O
theorem range_take (s m k : Nat) (h : k ≤ m) : (List.range' s m).take k = List.range' s k := by
  obtain ⟨j, rfl⟩ : ∃ j, m = k + j := ⟨m - k, by omega⟩
  rw [← List.range'_append]
  exact List.take_left' (by rw [List.length_range'])
theorem range_drop (s m k : Nat) (h : k ≤ m) : (List.range' s m).drop k = List.range' (s + k) (m - k) := by
  obtain ⟨j, rfl⟩ : ∃ j, m = k + j := ⟨m - k, by omega⟩
  rw [← List.range'_append, List.drop_left' (by rw [List.length_range'])]
  congr 1
  · omega
  · omega
theorem pick_left {c : Ky → Ky → Int} (h : Tot c) (l : List Ky) {x y : Nat} (hxy : x < y) : aheadL c l x y = !decide (c (l.getD y noKy) (l.getD x noKy) < 0) := by
  have e := h.anti (l.getD x noKy) (l.getD y noKy)
  unfold aheadL
  by_cases q : c (l.getD y noKy) (l.getD x noKy) < 0
  · rw [decide_eq_true q, decide_eq_false (show ¬ c (l.getD x noKy) (l.getD y noKy) < 0 by omega), decide_eq_false (show ¬ c (l.getD x noKy) (l.getD y noKy) = 0 by omega)]
    rfl
  · rw [decide_eq_false q, decide_eq_true hxy]
    by_cases z : c (l.getD x noKy) (l.getD y noKy) < 0
    · rw [decide_eq_true z]; rfl
    · rw [decide_eq_false z, decide_eq_true (show c (l.getD x noKy) (l.getD y noKy) = 0 by omega)]; rfl
theorem drop_get {α : Type} {l : List α} {k : Nat} {b : α} (h : l[k]? = some b) : l.drop k = b :: l.drop (k + 1) := by
  obtain ⟨hk, rfl⟩ := List.getElem?_eq_some_iff.1 h
  exact (List.drop_eq_getElem_cons hk)
theorem take_set_next {α : Type} (Z : List α) (k : Nat) (x : α) (h : k < Z.length) : (Z.set k x).take (k + 1) = Z.take k ++ [x] := by
  rw [List.take_add_one, List.take_set_of_le (Nat.le_refl k), List.getElem?_set_self h]
  rfl
structure MI (F : Nat → Nat → Bool) (r1 r2 T FZ : List Nat) (f h n p q : Nat) (Z : List Nat) : Prop where
  lp : p ≤ r1.length
  lq : q ≤ r2.length
  len : Z.length = n
  eq : Z.take (f + p + q) ++ (mergeL F (r1.drop p) (r2.drop q) ++ T) = FZ
  rest : Z.drop (h + q) = r2.drop q ++ T
theorem MI.left {F : Nat → Nat → Bool} {r1 r2 T FZ : List Nat} {f h n p q x : Nat} {Z : List Nat} (m : MI F r1 r2 T FZ f h n p q Z) (hh : h = f + r1.length) (hn : h + r2.length ≤ n) (hx : r1[p]? = some x) (hc : r2.length ≤ q ∨ ∃ y, r2[q]? = some y ∧ F x y = true) : MI F r1 r2 T FZ f h n (p + 1) q (Z.set (f + p + q) x) := by
  have hp : p < r1.length := (List.getElem?_eq_some_iff.1 hx).1
  have lq := m.lq
  have hl := m.len
  refine ⟨hp, lq, by rw [List.length_set]; exact hl, ?_, ?_⟩
  · have e := m.eq
    have em : mergeL F (r1.drop p) (r2.drop q) = x :: mergeL F (r1.drop (p + 1)) (r2.drop q) := by
      rw [drop_get hx]
      rcases hc with hc | ⟨y, hy, hF⟩
      · rw [List.drop_of_length_le hc, merge_nil, merge_nil]
      · rw [drop_get hy, merge_left hF]
    rw [em] at e
    rw [show f + (p + 1) + q = f + p + q + 1 by omega, take_set_next _ _ _ (by omega), List.append_assoc]
    exact e
  · rw [List.drop_set_of_lt (by omega)]
    exact m.rest
theorem MI.right {F : Nat → Nat → Bool} {r1 r2 T FZ : List Nat} {f h n p q x y : Nat} {Z : List Nat} (m : MI F r1 r2 T FZ f h n p q Z) (hh : h = f + r1.length) (hn : h + r2.length ≤ n) (hx : r1[p]? = some x) (hy : r2[q]? = some y) (hF : F x y = false) : MI F r1 r2 T FZ f h n p (q + 1) (Z.set (f + p + q) y) := by
  have hp : p < r1.length := (List.getElem?_eq_some_iff.1 hx).1
  have hq : q < r2.length := (List.getElem?_eq_some_iff.1 hy).1
  have hl := m.len
  refine ⟨m.lp, hq, by rw [List.length_set]; exact hl, ?_, ?_⟩
  · have e := m.eq
    have em : mergeL F (r1.drop p) (r2.drop q) = y :: mergeL F (r1.drop p) (r2.drop (q + 1)) := by
      rw [drop_get hx, drop_get hy, merge_right hF]
    rw [em] at e
    rw [show f + p + (q + 1) = f + p + q + 1 by omega, take_set_next _ _ _ (by omega), List.append_assoc]
    exact e
  · rw [List.drop_set_of_lt (by omega)]
    have r := m.rest
    rw [drop_get hy] at r
    rw [show h + (q + 1) = (h + q) + 1 by omega, ← List.drop_drop, r]
    rfl
theorem MI.read {F : Nat → Nat → Bool} {r1 r2 T FZ : List Nat} {f h n p q y : Nat} {Z : List Nat} (m : MI F r1 r2 T FZ f h n p q Z) (hy : r2[q]? = some y) : Z[h + q]? = some y := by
  have r := m.rest
  rw [drop_get hy] at r
  have : (Z.drop (h + q))[0]? = some y := by rw [r]; rfl
  rwa [List.getElem?_drop] at this
theorem MI.done {F : Nat → Nat → Bool} {r1 r2 T FZ : List Nat} {f h n p q : Nat} {Z : List Nat} (m : MI F r1 r2 T FZ f h n p q Z) (hh : h = f + r1.length) (hp : r1.length ≤ p) : Z = FZ := by
  have lp := m.lp
  have e := m.eq
  rw [List.drop_of_length_le hp] at e
  have e2 : mergeL F [] (r2.drop q) = r2.drop q := by rw [mergeL]
  rw [e2, ← m.rest, show f + p + q = h + q by omega, List.take_append_drop] at e
  exact e
theorem MI.start (F : Nat → Nat → Bool) (r1 r2 A T : List Nat) (f h n : Nat) (hf : A.length = f) (hh : h = f + r1.length) (hn : (A ++ (r1 ++ (r2 ++ T))).length = n) : MI F r1 r2 T (A ++ (mergeL F r1 r2 ++ T)) f h n 0 0 (A ++ (r1 ++ (r2 ++ T))) := by
  refine ⟨Nat.zero_le _, Nat.zero_le _, hn, ?_, ?_⟩
  · rw [List.drop_zero, List.drop_zero, show f + 0 + 0 = f by omega, List.take_left' hf]
  · rw [List.drop_zero, show h + 0 = h by omega, hh, ← hf, ← List.append_assoc, List.drop_left' (by rw [List.length_append])]
theorem arr_small {Z : List Nat} {f t : Nat} (hft : f ≤ t) (ht : t ≤ Z.length) (hk : ∀ k, f ≤ k → k < t → Z[k]? = some k) : Z.take f ++ (List.range' f (t - f) ++ Z.drop t) = Z := by
  apply List.ext_getElem?
  intro k
  rcases Nat.lt_or_ge k f with q | q
  · rw [List.getElem?_append_left (by rw [List.length_take]; omega), List.getElem?_take, if_pos q]
  · rw [List.getElem?_append_right (by rw [List.length_take]; omega), List.length_take, show min f Z.length = f by omega]
    rcases Nat.lt_or_ge k t with r | r
    · rw [List.getElem?_append_left (by rw [List.length_range']; omega), List.getElem?_range' (by omega), hk k q r]
      congr 1
      omega
    · rw [List.getElem?_append_right (by rw [List.length_range']; omega), List.length_range', List.getElem?_drop]
      congr 1
      omega
theorem sort_len {F : Nat → Nat → Bool} {xs r : List Nat} (h : SortOf F xs r) : r.length = xs.length := h.1.length_eq
theorem arr_two {Z r1 r2 : List Nat} {f h t : Nat} (hfh : f ≤ h) (hht : h ≤ t) (ht : t ≤ Z.length) (h1 : r1.length = h - f) : (Z.take f ++ (r1 ++ Z.drop h)).take h ++ (r2 ++ (Z.take f ++ (r1 ++ Z.drop h)).drop t) = Z.take f ++ (r1 ++ (r2 ++ Z.drop t)) := by
  have a : (Z.take f).length = f := by rw [List.length_take]; omega
  have e1 : (Z.take f ++ (r1 ++ Z.drop h)).take h = Z.take f ++ r1 := by
    rw [← List.append_assoc]
    exact List.take_left' (by rw [List.length_append]; omega)
  have e2 : (Z.take f ++ (r1 ++ Z.drop h)).drop t = Z.drop t := by
    rw [← List.append_assoc, List.drop_append, List.drop_of_length_le (by rw [List.length_append]; omega), List.nil_append, List.drop_drop, List.length_append]
    congr 1
    omega
  rw [e1, e2, List.append_assoc]
theorem arr_right {Z r : List Nat} {f h t : Nat} (hfh : f ≤ h) (ht : t ≤ Z.length) (hht : h ≤ t) (hr : r.length = h - f) (hk : ∀ k, f ≤ k → k < t → Z[k]? = some k) : ∀ k, h ≤ k → k < t → (Z.take f ++ (r ++ Z.drop h))[k]? = some k := fun k h1 h2 => by
  rw [← List.append_assoc, List.getElem?_append_right (by rw [List.length_append, List.length_take]; omega), List.length_append, List.length_take, List.getElem?_drop, ← hk k (by omega) h2]
  congr 1
  omega
theorem arr_halves {F : Nat → Nat → Bool} {n f h t : Nat} {r1 r2 : List Nat} (hA : Strict n F) (hfh : f ≤ h) (hht : h ≤ t) (ht : t ≤ n) (h1 : SortOf F (List.range' f (h - f)) r1) (h2 : SortOf F (List.range' h (t - h)) r2) : SortOf F (List.range' f (t - f)) (mergeL F r1 r2) := by
  refine SortOf.halves hA (h - f) (fun i hi => ?_) List.nodup_range' ?_ ?_
  · have := (List.mem_range'_1.1 hi).2
    omega
  · rw [range_take _ _ _ (by omega)]
    exact h1
  · rw [range_drop _ _ _ (by omega), show f + (h - f) = h by omega, show t - f - (h - f) = t - h by omega]
    exact h2
theorem sort_mem {F : Nat → Nat → Bool} {f m : Nat} {r : List Nat} (h : SortOf F (List.range' f m) r) {k x : Nat} (hx : r[k]? = some x) : f ≤ x ∧ x < f + m := List.mem_range'_1.1 (h.1.mem_iff.1 (List.mem_of_getElem? hx))
end Go.Proofs.YtfhagjnlliafiaaGreatDoor.O
