/-
  Two sorted lists of places merged, by a strict order. Conditions: none.
-/
import Derived.Test.YteeddednonmglaaDoorOTot
namespace Go.Proofs.YteeddednonmglaaDoor

def mergeL (A : Nat → Nat → Bool) : List Nat → List Nat → List Nat
  | [], ys => ys
  | x :: xs, [] => x :: xs
  | x :: xs, y :: ys => if A x y = true then x :: mergeL A xs (y :: ys) else y :: mergeL A (x :: xs) ys
termination_by xs ys => xs.length + ys.length
theorem merge_nil (A : Nat → Nat → Bool) (xs : List Nat) : mergeL A xs [] = xs := by
  cases xs with
  | nil => rw [mergeL]
  | cons x xs => rw [mergeL]
theorem merge_left {A : Nat → Nat → Bool} {x y : Nat} {xs ys : List Nat} (h : A x y = true) : mergeL A (x :: xs) (y :: ys) = x :: mergeL A xs (y :: ys) := by rw [mergeL, if_pos h]
theorem merge_right {A : Nat → Nat → Bool} {x y : Nat} {xs ys : List Nat} (h : A x y = false) : mergeL A (x :: xs) (y :: ys) = y :: mergeL A (x :: xs) ys := by rw [mergeL, if_neg (by rw [h]; decide)]
theorem merge_perm (A : Nat → Nat → Bool) : ∀ xs ys : List Nat, (mergeL A xs ys).Perm (xs ++ ys)
  | [], ys => by rw [mergeL]; exact List.Perm.refl _
  | x :: xs, [] => by rw [mergeL, List.append_nil]
  | x :: xs, y :: ys => by
    rw [mergeL]
    split
    · exact (merge_perm A xs (y :: ys)).cons x
    · refine ((merge_perm A (x :: xs) ys).cons y).trans ?_
      exact (List.perm_middle (l₁ := x :: xs) (l₂ := ys) (a := y)).symm
termination_by xs ys => xs.length + ys.length
theorem merge_sorted {n : Nat} {A : Nat → Nat → Bool} (hA : Strict n A) : ∀ xs ys : List Nat, (∀ i ∈ xs, i < n) → (∀ i ∈ ys, i < n) → (∀ i ∈ xs, i ∉ ys) → (xs.Pairwise fun i k => A i k = true) → (ys.Pairwise fun i k => A i k = true) → (mergeL A xs ys).Pairwise fun i k => A i k = true
  | [], ys, _, _, _, _, h2 => by rw [mergeL]; exact h2
  | x :: xs, [], _, _, _, h1, _ => by rw [mergeL]; exact h1
  | x :: xs, y :: ys, hx, hy, hd, h1, h2 => by
    obtain ⟨p1, p2⟩ := List.pairwise_cons.1 h1
    obtain ⟨q1, q2⟩ := List.pairwise_cons.1 h2
    have hxn := hx x List.mem_cons_self
    have hyn := hy y List.mem_cons_self
    have hxs : ∀ i ∈ xs, i < n := fun i hi => hx i (List.mem_cons_of_mem _ hi)
    have hys : ∀ i ∈ ys, i < n := fun i hi => hy i (List.mem_cons_of_mem _ hi)
    rw [mergeL]
    split
    · rename_i h
      refine List.pairwise_cons.2 ⟨fun k hk => ?_, merge_sorted hA xs (y :: ys) hxs hy (fun i hi => hd i (List.mem_cons_of_mem _ hi)) p2 h2⟩
      rcases List.mem_append.1 ((merge_perm A xs (y :: ys)).mem_iff.1 hk) with z | z
      · exact p1 k z
      · rcases List.mem_cons.1 z with z | z
        · rw [z]; exact h
        · exact hA.tri x y k hxn hyn (hys k z) h (q1 k z)
    · rename_i h
      have hyx : A y x = true := by
        have hne : x ≠ y := fun z => hd x List.mem_cons_self (by rw [z]; exact List.mem_cons_self)
        rcases hA.tot x y hxn hyn hne with z | z
        · exact absurd z h
        · exact z
      refine List.pairwise_cons.2 ⟨fun k hk => ?_, merge_sorted hA (x :: xs) ys hx hys (fun i hi hm => hd i hi (List.mem_cons_of_mem _ hm)) h1 q2⟩
      rcases List.mem_append.1 ((merge_perm A (x :: xs) ys).mem_iff.1 hk) with z | z
      · rcases List.mem_cons.1 z with z | z
        · rw [z]; exact hyx
        · exact hA.tri y x k hyn hxn (hxs k z) hyx (p1 k z)
      · exact q1 k z
termination_by xs ys => xs.length + ys.length
/-- A list's places, sorted. -/
def SortOf (A : Nat → Nat → Bool) (xs r : List Nat) : Prop := r.Perm xs ∧ r.Pairwise fun i k => A i k = true
theorem SortOf.one {A : Nat → Nat → Bool} {xs : List Nat} (h : xs.length ≤ 1) : SortOf A xs xs := by
  refine ⟨List.Perm.refl _, ?_⟩
  match xs, h with
  | [], _ => exact List.Pairwise.nil
  | [x], _ => exact List.pairwise_singleton _ _
theorem SortOf.halves {n : Nat} {A : Nat → Nat → Bool} (hA : Strict n A) {xs r s : List Nat} (k : Nat) (hn : ∀ i ∈ xs, i < n) (hd : xs.Nodup) (h1 : SortOf A (xs.take k) r) (h2 : SortOf A (xs.drop k) s) : SortOf A xs (mergeL A r s) := by
  have hsp : xs.take k ++ xs.drop k = xs := List.take_append_drop k xs
  have hdd : ∀ i ∈ xs.take k, i ∉ xs.drop k := by
    rw [← hsp] at hd
    intro i hi hj
    exact (List.nodup_append.1 hd).2.2 i hi i hj rfl
  refine ⟨(merge_perm A r s).trans (((h1.1.append h2.1)).trans (by rw [hsp])), merge_sorted hA r s (fun i hi => hn i (List.mem_of_mem_take (h1.1.mem_iff.1 hi))) (fun i hi => hn i (List.mem_of_mem_drop (h2.1.mem_iff.1 hi))) (fun i hi hj => hdd i (h1.1.mem_iff.1 hi) (h2.1.mem_iff.1 hj)) h1.2 h2.2⟩
theorem SortOf.range {n : Nat} {A : Nat → Nat → Bool} {r : List Nat} (h : SortOf A (List.range n) r) : SortP n A r := h
end Go.Proofs.YteeddednonmglaaDoor
