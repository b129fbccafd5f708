/-
  Merging two halves of a list in place, by a model. Conditions: each fact's own.
-/
import Derived.Test.YteeddednonmglaaDoorOMerge
import Derived.Test.YteeddednonmglaaDoorOKeyM
set_option linter.unusedVariables false
namespace Go.Proofs.YteeddednonmglaaDoor

theorem range_take (s m k : Nat) (h : k ≤ m) : (List.range' s m).take k = List.range' s k := by
  obtain ⟨j, rfl⟩ : ∃ j, m = k + j := ⟨m - k, by omega⟩
  rw [← List.range'_append]
  exact List.take_left' (by rw [List.length_range'])
theorem range_drop (s m k : Nat) (h : k ≤ m) : (List.range' s m).drop k = List.range' (s + k) (m - k) := by
  obtain ⟨j, rfl⟩ : ∃ j, m = k + j := ⟨m - k, by omega⟩
  rw [← List.range'_append, List.drop_left' (by rw [List.length_range'])]
  congr 1
  · omega
  · omega
theorem pick_left {c : Ky → Ky → Int} (h : Tot c) (l : List Ky) {x y : Nat} (hxy : x < y) : aheadL c l x y = !decide (c (l.getD y noKy) (l.getD x noKy) < 0) := by
  have e := h.anti (l.getD x noKy) (l.getD y noKy)
  unfold aheadL
  by_cases q : c (l.getD y noKy) (l.getD x noKy) < 0
  · rw [decide_eq_true q, decide_eq_false (show ¬ c (l.getD x noKy) (l.getD y noKy) < 0 by omega), decide_eq_false (show ¬ c (l.getD x noKy) (l.getD y noKy) = 0 by omega)]
    rfl
  · rw [decide_eq_false q, decide_eq_true hxy]
    by_cases z : c (l.getD x noKy) (l.getD y noKy) < 0
    · rw [decide_eq_true z]; rfl
    · rw [decide_eq_false z, decide_eq_true (show c (l.getD x noKy) (l.getD y noKy) = 0 by omega)]; rfl
theorem drop_get {α : Type} {l : List α} {k : Nat} {b : α} (h : l[k]? = some b) : l.drop k = b :: l.drop (k + 1) := by
  obtain ⟨hk, rfl⟩ := List.getElem?_eq_some_iff.1 h
  exact (List.drop_eq_getElem_cons hk)
theorem take_set_next {α : Type} (Z : List α) (k : Nat) (x : α) (h : k < Z.length) : (Z.set k x).take (k + 1) = Z.take k ++ [x] := by
  rw [List.take_add_one, List.take_set_of_le (Nat.le_refl k), List.getElem?_set_self h]
  rfl
/-- Where p of the left half and q of the right one are merged, from place f on: the rest of the right half lies where it lay. -/
structure MI (F : Nat → Nat → Bool) (r1 r2 T FZ : List Nat) (f h n p q : Nat) (Z : List Nat) : Prop where
  lp : p ≤ r1.length
  lq : q ≤ r2.length
  len : Z.length = n
  eq : Z.take (f + p + q) ++ (mergeL F (r1.drop p) (r2.drop q) ++ T) = FZ
  rest : Z.drop (h + q) = r2.drop q ++ T
theorem MI.left {F : Nat → Nat → Bool} {r1 r2 T FZ : List Nat} {f h n p q x : Nat} {Z : List Nat} (m : MI F r1 r2 T FZ f h n p q Z) (hh : h = f + r1.length) (hn : h + r2.length ≤ n) (hx : r1[p]? = some x) (hc : r2.length ≤ q ∨ ∃ y, r2[q]? = some y ∧ F x y = true) : MI F r1 r2 T FZ f h n (p + 1) q (Z.set (f + p + q) x) := by
  have hp : p < r1.length := (List.getElem?_eq_some_iff.1 hx).1
  have lq := m.lq
  have hl := m.len
  refine ⟨hp, lq, by rw [List.length_set]; exact hl, ?_, ?_⟩
  · have e := m.eq
    have em : mergeL F (r1.drop p) (r2.drop q) = x :: mergeL F (r1.drop (p + 1)) (r2.drop q) := by
      rw [drop_get hx]
      rcases hc with hc | ⟨y, hy, hF⟩
      · rw [List.drop_of_length_le hc, merge_nil, merge_nil]
      · rw [drop_get hy, merge_left hF]
    rw [em] at e
    rw [show f + (p + 1) + q = f + p + q + 1 by omega, take_set_next _ _ _ (by omega), List.append_assoc]
    exact e
  · rw [List.drop_set_of_lt (by omega)]
    exact m.rest
theorem MI.right {F : Nat → Nat → Bool} {r1 r2 T FZ : List Nat} {f h n p q x y : Nat} {Z : List Nat} (m : MI F r1 r2 T FZ f h n p q Z) (hh : h = f + r1.length) (hn : h + r2.length ≤ n) (hx : r1[p]? = some x) (hy : r2[q]? = some y) (hF : F x y = false) : MI F r1 r2 T FZ f h n p (q + 1) (Z.set (f + p + q) y) := by
  have hp : p < r1.length := (List.getElem?_eq_some_iff.1 hx).1
  have hq : q < r2.length := (List.getElem?_eq_some_iff.1 hy).1
  have hl := m.len
  refine ⟨m.lp, hq, by rw [List.length_set]; exact hl, ?_, ?_⟩
  · have e := m.eq
    have em : mergeL F (r1.drop p) (r2.drop q) = y :: mergeL F (r1.drop p) (r2.drop (q + 1)) := by
      rw [drop_get hx, drop_get hy, merge_right hF]
    rw [em] at e
    rw [show f + p + (q + 1) = f + p + q + 1 by omega, take_set_next _ _ _ (by omega), List.append_assoc]
    exact e
  · rw [List.drop_set_of_lt (by omega)]
    have r := m.rest
    rw [drop_get hy] at r
    rw [show h + (q + 1) = (h + q) + 1 by omega, ← List.drop_drop, r]
    rfl
theorem MI.read {F : Nat → Nat → Bool} {r1 r2 T FZ : List Nat} {f h n p q y : Nat} {Z : List Nat} (m : MI F r1 r2 T FZ f h n p q Z) (hy : r2[q]? = some y) : Z[h + q]? = some y := by
  have r := m.rest
  rw [drop_get hy] at r
  have : (Z.drop (h + q))[0]? = some y := by rw [r]; rfl
  rwa [List.getElem?_drop] at this
theorem MI.done {F : Nat → Nat → Bool} {r1 r2 T FZ : List Nat} {f h n p q : Nat} {Z : List Nat} (m : MI F r1 r2 T FZ f h n p q Z) (hh : h = f + r1.length) (hp : r1.length ≤ p) : Z = FZ := by
  have lp := m.lp
  have e := m.eq
  rw [List.drop_of_length_le hp] at e
  have e2 : mergeL F [] (r2.drop q) = r2.drop q := by rw [mergeL]
  rw [e2, ← m.rest, show f + p + q = h + q by omega, List.take_append_drop] at e
  exact e
theorem MI.start (F : Nat → Nat → Bool) (r1 r2 A T : List Nat) (f h n : Nat) (hf : A.length = f) (hh : h = f + r1.length) (hn : (A ++ (r1 ++ (r2 ++ T))).length = n) : MI F r1 r2 T (A ++ (mergeL F r1 r2 ++ T)) f h n 0 0 (A ++ (r1 ++ (r2 ++ T))) := by
  refine ⟨Nat.zero_le _, Nat.zero_le _, hn, ?_, ?_⟩
  · rw [List.drop_zero, List.drop_zero, show f + 0 + 0 = f by omega, List.take_left' hf]
  · rw [List.drop_zero, show h + 0 = h by omega, hh, ← hf, ← List.append_assoc, List.drop_left' (by rw [List.length_append])]
/-- What an arranged part is. -/
theorem arr_small {Z : List Nat} {f t : Nat} (hft : f ≤ t) (ht : t ≤ Z.length) (hk : ∀ k, f ≤ k → k < t → Z[k]? = some k) : Z.take f ++ (List.range' f (t - f) ++ Z.drop t) = Z := by
  apply List.ext_getElem?
  intro k
  rcases Nat.lt_or_ge k f with q | q
  · rw [List.getElem?_append_left (by rw [List.length_take]; omega), List.getElem?_take, if_pos q]
  · rw [List.getElem?_append_right (by rw [List.length_take]; omega), List.length_take, show min f Z.length = f by omega]
    rcases Nat.lt_or_ge k t with r | r
    · rw [List.getElem?_append_left (by rw [List.length_range']; omega), List.getElem?_range' (by omega), hk k q r]
      congr 1
      omega
    · rw [List.getElem?_append_right (by rw [List.length_range']; omega), List.length_range', List.getElem?_drop]
      congr 1
      omega
theorem sort_len {F : Nat → Nat → Bool} {xs r : List Nat} (h : SortOf F xs r) : r.length = xs.length := h.1.length_eq
/-- Two arranged halves, one behind the other. -/
theorem arr_two {Z r1 r2 : List Nat} {f h t : Nat} (hfh : f ≤ h) (hht : h ≤ t) (ht : t ≤ Z.length) (h1 : r1.length = h - f) : (Z.take f ++ (r1 ++ Z.drop h)).take h ++ (r2 ++ (Z.take f ++ (r1 ++ Z.drop h)).drop t) = Z.take f ++ (r1 ++ (r2 ++ Z.drop t)) := by
  have a : (Z.take f).length = f := by rw [List.length_take]; omega
  have e1 : (Z.take f ++ (r1 ++ Z.drop h)).take h = Z.take f ++ r1 := by
    rw [← List.append_assoc]
    exact List.take_left' (by rw [List.length_append]; omega)
  have e2 : (Z.take f ++ (r1 ++ Z.drop h)).drop t = Z.drop t := by
    rw [← List.append_assoc, List.drop_append, List.drop_of_length_le (by rw [List.length_append]; omega), List.nil_append, List.drop_drop, List.length_append]
    congr 1
    omega
  rw [e1, e2, List.append_assoc]
theorem arr_len {Z r : List Nat} {f t : Nat} (hft : f ≤ t) (ht : t ≤ Z.length) (hr : r.length = t - f) : (Z.take f ++ (r ++ Z.drop t)).length = Z.length := by
  rw [List.length_append, List.length_append, List.length_take, List.length_drop]
  omega
theorem arr_right {Z r : List Nat} {f h t : Nat} (hfh : f ≤ h) (ht : t ≤ Z.length) (hht : h ≤ t) (hr : r.length = h - f) (hk : ∀ k, f ≤ k → k < t → Z[k]? = some k) : ∀ k, h ≤ k → k < t → (Z.take f ++ (r ++ Z.drop h))[k]? = some k := fun k h1 h2 => by
  rw [← List.append_assoc, List.getElem?_append_right (by rw [List.length_append, List.length_take]; omega), List.length_append, List.length_take, List.getElem?_drop, ← hk k (by omega) h2]
  congr 1
  omega
theorem arr_halves {F : Nat → Nat → Bool} {n f h t : Nat} {r1 r2 : List Nat} (hA : Strict n F) (hfh : f ≤ h) (hht : h ≤ t) (ht : t ≤ n) (h1 : SortOf F (List.range' f (h - f)) r1) (h2 : SortOf F (List.range' h (t - h)) r2) : SortOf F (List.range' f (t - f)) (mergeL F r1 r2) := by
  refine SortOf.halves hA (h - f) (fun i hi => ?_) List.nodup_range' ?_ ?_
  · have := (List.mem_range'_1.1 hi).2
    omega
  · rw [range_take _ _ _ (by omega)]
    exact h1
  · rw [range_drop _ _ _ (by omega), show f + (h - f) = h by omega, show t - f - (h - f) = t - h by omega]
    exact h2
theorem sort_mem {F : Nat → Nat → Bool} {f m : Nat} {r : List Nat} (h : SortOf F (List.range' f m) r) {k x : Nat} (hx : r[k]? = some x) : f ≤ x ∧ x < f + m := List.mem_range'_1.1 (h.1.mem_iff.1 (List.mem_of_getElem? hx))
end Go.Proofs.YteeddednonmglaaDoor
