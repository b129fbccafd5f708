/-
  What is opened is closed: the steps over a walk's visits. Conditions: each fact's own.
-/
import Derived.Test.YtcjbnjoomgagjaaGreatDoorKGArg
set_option linter.unusedVariables false
namespace Go.Proofs.YtcjbnjoomgagjaaGreatDoor.G
open Go.RowKit
theorem step_over {dir : Int → Bool} {most : Int} {L : List Vis} {i : Nat} {S : List ByteArray} {v : Vis} (h : L[i]? = some v) (ho : v.over = true) (hd : v.depth = (S.length : Int)) : stepO dir most L i (S ++ [v.name]) = some S := by
  unfold stepO
  rw [h]
  dsimp only
  rw [if_pos ho, List.getLast?_append, List.getLast?_singleton, Option.some_or]
  dsimp only
  rw [if_pos ⟨rfl, by rw [List.length_append, List.length_singleton]; omega⟩, List.dropLast_concat]
theorem step_err {dir : Int → Bool} {most : Int} {L : List Vis} {i : Nat} {S : List ByteArray} {u v : Vis} (hu : L[i]? = some u) (h : L[i + 1]? = some v) (ho : v.over = false) (he : v.err ≠ 0) (hn : u.name = v.name) (huo : u.over = false) : stepO dir most L (i + 1) S = some S := by
  unfold stepO
  rw [h]
  dsimp only
  rw [if_neg (by rw [ho]; decide), if_pos he, if_neg (Nat.succ_ne_zero i), show i + 1 - 1 = i by omega, hu]
  dsimp only
  rw [if_pos ⟨hn, huo⟩]
def failB (L : List Vis) (i : Nat) (v : Vis) : Prop := ∃ u, L[i + 1]? = some u ∧ u.err ≠ 0 ∧ u.name = v.name ∧ u.depth = v.depth
theorem step_push {dir : Int → Bool} {most : Int} {L : List Vis} {i : Nat} {S : List ByteArray} {v : Vis} (h : L[i]? = some v) (ho : v.over = false) (he : v.err = 0) (hd : v.depth = (S.length : Int)) (h1 : dir v.id = true ∧ deepB most v.depth = true) (h2 : ¬ failB L i v) : stepO dir most L i S = some (S ++ [v.name]) := by
  unfold stepO
  rw [h]
  dsimp only
  rw [if_neg (by rw [ho]; decide), if_neg (fun q => q he), if_neg (fun q => q hd), if_pos ⟨h1.1, h1.2, h2⟩]
theorem step_stay {dir : Int → Bool} {most : Int} {L : List Vis} {i : Nat} {S : List ByteArray} {v : Vis} (h : L[i]? = some v) (ho : v.over = false) (he : v.err = 0) (hd : v.depth = (S.length : Int)) (h1 : ¬ (dir v.id = true ∧ deepB most v.depth = true) ∨ failB L i v) : stepO dir most L i S = some S := by
  unfold stepO
  rw [h]
  dsimp only
  rw [if_neg (by rw [ho]; decide), if_neg (fun q => q he), if_neg (fun q => q hd), if_neg]
  rintro ⟨q1, q2, q3⟩
  rcases h1 with h1 | h1
  · exact h1 ⟨q1, q2⟩
  · exact q3 h1
theorem StepsO.end_ {dir : Int → Bool} {most : Int} {L : List Vis} {i : Nat} {S S' : List ByteArray} (h : StepsO dir most L i S i S') : S = S' := by
  cases h with
  | here => rfl
  | step q r => have := r.le; omega
theorem walk_first (T : Tr) (most : Int) (f : Nat) (v : Vis) : ∃ B, walkV T most f v = atV T v :: B := by
  cases f with
  | zero => exact ⟨_, rfl⟩
  | succ f =>
    unfold walkV
    split
    · split
      · exact ⟨_, rfl⟩
      · exact ⟨_, rfl⟩
    · exact ⟨_, rfl⟩
theorem kids_first (T : Tr) (most : Int) (f : Nat) (v z : Vis) (l : List (ByteArray × Int)) (hz : z.err = 0) : ∃ x B, kidsV (walkV T most f) v l ++ [z] = x :: B ∧ x.err = 0 := by
  cases l with
  | nil => exact ⟨z, [], rfl, hz⟩
  | cons e r =>
    obtain ⟨B, hB⟩ := walk_first T most f (kidV v e r.isEmpty)
    unfold kidsV
    rw [hB]
    exact ⟨_, _, rfl, rfl⟩
theorem kids_steps {dir : Int → Bool} {most : Int} {L : List Vis} {S : List ByteArray} {g : Vis → List Vis} {v : Vis} : ∀ (l : List (ByteArray × Int)) (i : Nat), (∀ e b j, Here L j (g (kidV v e b)) → StepsO dir most L j S (j + (g (kidV v e b)).length) S) → Here L i (kidsV g v l) → StepsO dir most L i S (i + (kidsV g v l).length) S
  | [], i, _, _ => .here _ _
  | e :: r, i, h, hH => by
    unfold kidsV at hH ⊢
    rw [List.length_append, ← Nat.add_assoc]
    exact (h e _ i hH.left).trans (kids_steps r _ h hH.right)
theorem walk_steps (T : Tr) (most : Int) (L : List Vis) : ∀ (f : Nat) (v : Vis) (i : Nat) (S : List ByteArray), v.over = false → v.err = 0 → v.depth = (S.length : Int) → 100 ≤ (f : Int) + v.depth → Here L i (walkV T most f v) → StepsO T.dir most L i S (i + (walkV T most f v).length) S
  | 0, v, i, S, ho, he, hd, hf, hH => by
    refine .step (step_stay (v := atV T v) hH.head ho he hd (.inl ?_)) (.here _ _)
    rintro ⟨_, q⟩
    unfold deepB at q
    rw [decide_eq_false (show ¬ (atV T v).depth < 100 by show ¬ v.depth < 100; omega), Bool.and_false] at q
    cases q
  | f + 1, v, i, S, ho, he, hd, hf, hH => by
    by_cases hc : T.dir (T.over v.id) = true ∧ deepB most v.depth = true
    · by_cases hs : (T.shown (T.over v.id)).1 = 0
      · rw [walk_dir hc hs] at hH ⊢
        obtain ⟨x, B, hx, hxe⟩ := kids_first T most f (atV T v) (overV (atV T v)) (T.shown (T.over v.id)).2 he
        have hn : L[i + 1]? = some x := by
          have := hH.tail
          rw [hx] at this
          exact this.head
        refine .step (step_push (v := atV T v) hH.head ho he hd hc ?_) ?_
        · rintro ⟨u, hu, hue, _⟩
          rw [hn] at hu
          obtain rfl := Option.some.inj hu
          exact hue hxe
        · have hk := kids_steps (dir := T.dir) (most := most) (L := L) (S := S ++ [v.name]) (g := walkV T most f) (v := atV T v) (T.shown (T.over v.id)).2 (i + 1)
            (fun e b j hj => walk_steps T most L f _ j _ rfl rfl (by rw [List.length_append]; show v.depth + 1 = _; simp; omega) (by show 100 ≤ (f : Int) + (v.depth + 1); omega) hj) hH.tail.left
          refine hk.trans ?_
          have hlast := hH.tail.right.head
          rw [List.length_cons, List.length_append, List.length_singleton, show i + ((kidsV (walkV T most f) (atV T v) (T.shown (T.over v.id)).2).length + 1 + 1) = i + 1 + (kidsV (walkV T most f) (atV T v) (T.shown (T.over v.id)).2).length + 1 by omega]
          exact .step (step_over (v := overV (atV T v)) hlast rfl hd) (.here _ _)
      · rw [walk_err hc hs] at hH ⊢
        have hn := hH.tail.head
        refine .step (step_stay (v := atV T v) hH.head ho he hd (.inr ⟨_, hn, hs, rfl, rfl⟩)) (.step (step_err (u := atV T v) (v := errV (atV T v) (T.shown (T.over v.id)).1) hH.head hn ho hs rfl ho) (.here _ _))
    · rw [walk_leaf hc] at hH ⊢
      exact .step (step_stay (v := atV T v) hH.head ho he hd (.inl hc)) (.here _ _)
end Go.Proofs.YtcjbnjoomgagjaaGreatDoor.G
