/-
  Directories gone through, by a model over any tree; that a lesser depth tells the same but for what is deeper, and that what is opened is closed. Conditions: each fact's own.
  How many visits a walk has at most, and how long their names are, by a model over any tree in which each directory is come to from one other alone. Conditions: each fact's own.
-/
import Derived.Lib.RuneCountTail
set_option linter.unusedVariables false
namespace Go.Proofs.YtpikndeefiediaaGreatDoor.G

structure Vis where
  id : Int
  depth : Int
  name : ByteArray
  base : ByteArray
  last : Bool
  over : Bool
  err : Int
/-- What is asked of a tree: what covers a node, whether it is a directory, what is shown of it (or an error). -/
structure Tr where
  over : Int → Int
  dir : Int → Bool
  shown : Int → Int × List (ByteArray × Int)
def slashN (s : ByteArray) : ByteArray := if s.data.toList.getLast? = some 47 then s else s ++ ⟨#[47]⟩
def kidV (v : Vis) (e : ByteArray × Int) (last : Bool) : Vis := ⟨e.2, v.depth + 1, slashN v.name ++ e.1, e.1, last, false, 0⟩
def kidsV (g : Vis → List Vis) (v : Vis) : List (ByteArray × Int) → List Vis
  | [] => []
  | e :: r => g (kidV v e r.isEmpty) ++ kidsV g v r
/-- Whether a walk goes deeper than depth d. -/
def deepB (most d : Int) : Bool := (decide (most < 0) || decide (d < most)) && decide (d < 100)
def atV (T : Tr) (v : Vis) : Vis := ⟨T.over v.id, v.depth, v.name, v.base, v.last, v.over, v.err⟩
def errV (v : Vis) (e : Int) : Vis := ⟨v.id, v.depth, v.name, v.base, v.last, v.over, e⟩
def overV (v : Vis) : Vis := ⟨v.id, v.depth, v.name, v.base, v.last, true, v.err⟩
def walkV (T : Tr) (most : Int) : Nat → Vis → List Vis
  | 0, v => [atV T v]
  | f + 1, v => if T.dir (T.over v.id) = true ∧ deepB most v.depth = true then
      (if (T.shown (T.over v.id)).1 ≠ 0 then [atV T v, errV (atV T v) (T.shown (T.over v.id)).1]
       else atV T v :: (kidsV (walkV T most f) (atV T v) (T.shown (T.over v.id)).2 ++ [overV (atV T v)]))
    else [atV T v]
theorem walk_leaf {T : Tr} {most : Int} {f : Nat} {v : Vis} (h : ¬ (T.dir (T.over v.id) = true ∧ deepB most v.depth = true)) : walkV T most (f + 1) v = [atV T v] := by
  rw [walkV, if_neg h]
theorem walk_err {T : Tr} {most : Int} {f : Nat} {v : Vis} (h : T.dir (T.over v.id) = true ∧ deepB most v.depth = true) (hs : (T.shown (T.over v.id)).1 ≠ 0) : walkV T most (f + 1) v = [atV T v, errV (atV T v) (T.shown (T.over v.id)).1] := by
  rw [walkV, if_pos h, if_pos hs]
theorem walk_dir {T : Tr} {most : Int} {f : Nat} {v : Vis} (h : T.dir (T.over v.id) = true ∧ deepB most v.depth = true) (hs : (T.shown (T.over v.id)).1 = 0) : walkV T most (f + 1) v = atV T v :: (kidsV (walkV T most f) (atV T v) (T.shown (T.over v.id)).2 ++ [overV (atV T v)]) := by
  rw [walkV, if_pos h, if_neg (fun q => q hs)]

/-! ### depths -/
theorem kids_all {P : Vis → Prop} {g : Vis → List Vis} {v : Vis} : ∀ (l : List (ByteArray × Int)), (∀ e b, ∀ x ∈ g (kidV v e b), P x) → ∀ x ∈ kidsV g v l, P x
  | [], _, x, hx => by cases hx
  | e :: r, h, x, hx => by
    rcases List.mem_append.1 hx with hx | hx
    · exact h e _ x hx
    · exact kids_all r h x hx
theorem walk_deep (T : Tr) (most : Int) : ∀ (f : Nat) (v : Vis), ∀ x ∈ walkV T most f v, v.depth ≤ x.depth
  | 0, v, x, hx => by
    obtain rfl := List.mem_singleton.1 hx
    exact Int.le_refl _
  | f + 1, v, x, hx => by
    unfold walkV at hx
    split at hx
    · split at hx
      · simp only [List.mem_cons, List.not_mem_nil, or_false] at hx
        rcases hx with rfl | rfl <;> exact Int.le_refl _
      · rcases List.mem_cons.1 hx with rfl | hx
        · exact Int.le_refl _
        · rcases List.mem_append.1 hx with hx | hx
          · refine kids_all (P := fun x => v.depth ≤ x.depth) _ (fun e b y hy => ?_) x hx
            have := walk_deep T most f _ y hy
            have e1 : (kidV (atV T v) e b).depth = v.depth + 1 := rfl
            omega
          · obtain rfl := List.mem_singleton.1 hx
            exact Int.le_refl _
    · obtain rfl := List.mem_singleton.1 hx
      exact Int.le_refl _
/-! ### what is opened is closed -/
/-- One step over a list of visits: what is open behind visit i; none where something is wrong. -/
def stepO (dir : Int → Bool) (most : Int) (L : List Vis) (i : Nat) (S : List ByteArray) : Option (List ByteArray) :=
  match L[i]? with
  | none => none
  | some v =>
    if v.over = true then (match S.getLast? with
      | none => none
      | some s => if s = v.name ∧ v.depth = (S.length : Int) - 1 then some S.dropLast else none)
    else if v.err ≠ 0 then (if i = 0 then none else match L[i - 1]? with
      | none => none
      | some u => if u.name = v.name ∧ u.over = false then some S else none)
    else if v.depth ≠ (S.length : Int) then none
    else if dir v.id = true ∧ deepB most v.depth = true ∧ ¬ (∃ u, L[i + 1]? = some u ∧ u.err ≠ 0 ∧ u.name = v.name ∧ u.depth = v.depth) then some (S ++ [v.name])
    else some S
inductive StepsO (dir : Int → Bool) (most : Int) (L : List Vis) : Nat → List ByteArray → Nat → List ByteArray → Prop
  | here (i : Nat) (S : List ByteArray) : StepsO dir most L i S i S
  | step {i j : Nat} {S S1 S' : List ByteArray} : stepO dir most L i S = some S1 → StepsO dir most L (i + 1) S1 j S' → StepsO dir most L i S j S'
theorem StepsO.trans {dir : Int → Bool} {most : Int} {L : List Vis} {i j k : Nat} {S S1 S2 : List ByteArray} (h : StepsO dir most L i S j S1) (h2 : StepsO dir most L j S1 k S2) : StepsO dir most L i S k S2 := by
  induction h with
  | here => exact h2
  | step q _ ih => exact .step q (ih h2)
theorem StepsO.le {dir : Int → Bool} {most : Int} {L : List Vis} {i j : Nat} {S S1 : List ByteArray} (h : StepsO dir most L i S j S1) : i ≤ j := by
  induction h with
  | here => exact Nat.le_refl _
  | step _ _ ih => omega
theorem StepsO.next {dir : Int → Bool} {most : Int} {L : List Vis} {i j : Nat} {S S' : List ByteArray} (h : StepsO dir most L i S j S') (hi : i < j) : ∃ S1, stepO dir most L i S = some S1 ∧ StepsO dir most L (i + 1) S1 j S' := by
  cases h with
  | here => omega
  | step q r => exact ⟨_, q, r⟩
/-- A visit first, what is behind it. -/
def Here (L : List Vis) (i : Nat) (W : List Vis) : Prop := ∀ k x, W[k]? = some x → L[i + k]? = some x
theorem Here.left {L : List Vis} {i : Nat} {A B : List Vis} (h : Here L i (A ++ B)) : Here L i A := fun k x hx => h k x (by rw [List.getElem?_append_left (List.getElem?_eq_some_iff.1 hx).1]; exact hx)
theorem Here.right {L : List Vis} {i : Nat} {A B : List Vis} (h : Here L i (A ++ B)) : Here L (i + A.length) B := fun k x hx => by
  rw [Nat.add_assoc]
  exact h _ x (by rw [List.getElem?_append_right (by omega), Nat.add_sub_cancel_left]; exact hx)
theorem Here.tail {L : List Vis} {i : Nat} {a : Vis} {B : List Vis} (h : Here L i (a :: B)) : Here L (i + 1) B := fun k x hx => by
  have := h (k + 1) x hx
  rwa [show i + (k + 1) = i + 1 + k by omega] at this
theorem Here.head {L : List Vis} {i : Nat} {a : Vis} {B : List Vis} (h : Here L i (a :: B)) : L[i]? = some a := h 0 a rfl
end Go.Proofs.YtpikndeefiediaaGreatDoor.G

namespace Go.Proofs.YtpikndeefiediaaGreatDoor.G

/-- Upwards from x by par, ever lesser numbers, d is come to. -/
inductive Desc (par : Int → Int) (d : Int) : Int → Prop
  | here : Desc par d d
  | step (x : Int) : par x < x → Desc par d (par x) → Desc par d x
theorem Desc.le {par : Int → Int} {d x : Int} (h : Desc par d x) : d ≤ x := by
  induction h with
  | here => exact Int.le_refl _
  | step x hx _ ih => omega
theorem Desc.two {par : Int → Int} {a b x : Int} (ha : Desc par a x) (hb : Desc par b x) : Desc par a b ∨ Desc par b a := by
  induction ha with
  | here => exact .inr hb
  | step x hy h ih =>
    cases hb with
    | here => exact .inl (.step _ hy h)
    | step _ _ h' => exact ih h'
theorem Desc.sibs {par : Int → Int} {a b d x : Int} (ha : par a = d) (hb : par b = d) (la : d < a) (lb : d < b) (h1 : Desc par a x) (h2 : Desc par b x) : a = b := by
  have key : ∀ {a b : Int}, par b = d → d < a → Desc par a b → a = b := fun {a b} hb la h => by
    cases h with
    | here => rfl
    | step _ _ h => rw [hb] at h; have := h.le; omega
  rcases h1.two h2 with h | h
  · exact key hb la h
  · exact (key ha lb h).symm
/-- What bounds a tree. -/
structure TreeB (T : Tr) (par : Int → Int) (N E : Nat) : Prop where
  dir : ∀ i, T.dir i = true → 0 ≤ i ∧ i < (N : Int)
  up : ∀ d, T.dir d = true → ∀ e ∈ (T.shown d).2, T.dir (T.over e.2) = true → par (T.over e.2) = d ∧ d < T.over e.2
  one : ∀ d, T.dir d = true → (T.shown d).2.Pairwise fun a b => T.dir (T.over a.2) = true → T.over a.2 ≠ T.over b.2
  few : ∀ d, T.dir d = true → (T.shown d).2.length ≤ E
def kidsO (g : Int → Int → List Int) (d : Int) : List (ByteArray × Int) → List Int
  | [] => []
  | e :: r => g e.2 (d + 1) ++ kidsO g d r
/-- The directories that are opened. -/
def opensO (T : Tr) (most : Int) : Nat → Int → Int → List Int
  | 0, _, _ => []
  | f + 1, i, d => if T.dir (T.over i) = true ∧ deepB most d = true then T.over i :: (if (T.shown (T.over i)).1 ≠ 0 then [] else kidsO (opensO T most f) d (T.shown (T.over i)).2) else []
theorem kids_mem {g : Int → Int → List Int} {d x : Int} : ∀ {l : List (ByteArray × Int)}, x ∈ kidsO g d l → ∃ e ∈ l, x ∈ g e.2 (d + 1)
  | [], h => by cases h
  | e :: r, h => by
    rcases List.mem_append.1 h with h | h
    · exact ⟨e, List.mem_cons_self, h⟩
    · obtain ⟨e', he', h'⟩ := kids_mem h
      exact ⟨e', List.mem_cons_of_mem _ he', h'⟩
theorem Desc.trans {par : Int → Int} {a b c : Int} (h : Desc par a b) (h2 : Desc par b c) : Desc par a c := by
  induction h2 with
  | here => exact h
  | step y hy _ ih => exact .step y hy ih
theorem opens_desc {T : Tr} {par : Int → Int} {N E : Nat} (B : TreeB T par N E) (most : Int) : ∀ (f : Nat) (i d : Int), ∀ x ∈ opensO T most f i d, T.dir (T.over i) = true ∧ T.dir x = true ∧ Desc par (T.over i) x
  | 0, i, d, x, hx => by cases hx
  | f + 1, i, d, x, hx => by
    unfold opensO at hx
    split at hx
    · rename_i hc
      rcases List.mem_cons.1 hx with rfl | hx
      · exact ⟨hc.1, hc.1, .here⟩
      · split at hx
        · cases hx
        · obtain ⟨e, he, hxe⟩ := kids_mem hx
          obtain ⟨h1, h2, h3⟩ := opens_desc B most f _ _ x hxe
          obtain ⟨u1, u2⟩ := B.up _ hc.1 e he h1
          exact ⟨hc.1, h2, .trans (.step _ (by rw [u1]; exact u2) (by rw [u1]; exact .here)) h3⟩
    · cases hx
theorem kids_nodup {g : Int → Int → List Int} {d : Int} : ∀ (l : List (ByteArray × Int)), (∀ e ∈ l, (g e.2 (d + 1)).Nodup) → l.Pairwise (fun a b => ∀ x ∈ g a.2 (d + 1), x ∉ g b.2 (d + 1)) → (kidsO g d l).Nodup
  | [], _, _ => List.nodup_nil
  | e :: r, h, hp => by
    obtain ⟨p1, p2⟩ := List.pairwise_cons.1 hp
    unfold kidsO
    refine List.nodup_append.2 ⟨h e List.mem_cons_self, kids_nodup r (fun e he => h e (List.mem_cons_of_mem _ he)) p2, fun x hx y hy hxy => ?_⟩
    subst hxy
    obtain ⟨e', he', h'⟩ := kids_mem hy
    exact p1 e' he' x hx h'
theorem opens_nodup {T : Tr} {par : Int → Int} {N E : Nat} (B : TreeB T par N E) (most : Int) : ∀ (f : Nat) (i d : Int), (opensO T most f i d).Nodup
  | 0, i, d => List.nodup_nil
  | f + 1, i, d => by
    unfold opensO
    split
    · rename_i hc
      refine List.nodup_cons.2 ⟨fun hx => ?_, ?_⟩
      · split at hx
        · cases hx
        · obtain ⟨e, he, hxe⟩ := kids_mem hx
          obtain ⟨h1, h2, h3⟩ := opens_desc B most f _ _ _ hxe
          obtain ⟨u1, u2⟩ := B.up _ hc.1 e he h1
          have := h3.le
          omega
      · split
        · exact List.nodup_nil
        · refine kids_nodup _ (fun e he => opens_nodup B most f _ _) ?_
          have hone := B.one _ hc.1
          have hall : ∀ e ∈ (T.shown (T.over i)).2, ∀ x ∈ opensO T most f e.2 (d + 1), T.dir (T.over e.2) = true ∧ par (T.over e.2) = T.over i ∧ T.over i < T.over e.2 ∧ Desc par (T.over e.2) x := fun e he x hx => by
            obtain ⟨h1, h2, h3⟩ := opens_desc B most f _ _ _ hx
            obtain ⟨u1, u2⟩ := B.up _ hc.1 e he h1
            exact ⟨h1, u1, u2, h3⟩
          generalize (T.shown (T.over i)).2 = l at hone hall
          induction l with
          | nil => exact List.Pairwise.nil
          | cons a r ih =>
            obtain ⟨p1, p2⟩ := List.pairwise_cons.1 hone
            refine List.pairwise_cons.2 ⟨fun b hb x hx hx' => ?_, ih p2 (fun e he => hall e (List.mem_cons_of_mem _ he))⟩
            obtain ⟨a1, a2, a3, a4⟩ := hall a List.mem_cons_self x hx
            obtain ⟨b1, b2, b3, b4⟩ := hall b (List.mem_cons_of_mem _ hb) x hx'
            exact p1 b hb a1 (Desc.sibs a2 b2 a3 b3 a4 b4)
    · exact List.nodup_nil
/-- Different numbers below N are at most N. -/
theorem nodup_few : ∀ (N : Nat) (l : List Int), l.Nodup → (∀ x ∈ l, 0 ≤ x ∧ x < (N : Int)) → l.length ≤ N
  | 0, l, _, h => by
    cases l with
    | nil => exact Nat.le_refl _
    | cons x r => have := h x List.mem_cons_self; omega
  | N + 1, l, hn, h => by
    have h1 := nodup_few N (l.filter fun x => x != (N : Int)) (hn.sublist List.filter_sublist) (fun x hx => by
      obtain ⟨m, q⟩ := List.mem_filter.1 hx
      have := h x m
      have : x ≠ (N : Int) := by simpa using q
      omega)
    have h2 : l.length ≤ (l.filter fun x => x != (N : Int)).length + 1 := by
      clear h1 h
      induction l with
      | nil => exact Nat.zero_le _
      | cons x r ih =>
        obtain ⟨n1, n2⟩ := List.nodup_cons.1 hn
        by_cases q : x = (N : Int)
        · have : r.filter (fun x => x != (N : Int)) = r := List.filter_eq_self.2 fun y hy => by
            have : y ≠ (N : Int) := fun z => n1 (by rw [q, ← z]; exact hy)
            simpa using this
          rw [List.filter_cons, if_neg (by simp [q]), this, List.length_cons]
          exact Nat.le_refl _
        · rw [List.filter_cons, if_pos (by simpa using q), List.length_cons, List.length_cons]
          have := ih n2
          omega
    omega
theorem kids_count {T : Tr} {most : Int} {f : Nat} {E : Nat} {v : Vis} : ∀ (l : List (ByteArray × Int)), (∀ e ∈ l, ∀ b, (walkV T most f (kidV v e b)).length ≤ 1 + (opensO T most f e.2 (v.depth + 1)).length * (E + 1)) → (kidsV (walkV T most f) v l).length ≤ l.length + (kidsO (opensO T most f) v.depth l).length * (E + 1)
  | [], _ => Nat.zero_le _
  | e :: r, h => by
    have h1 := h e List.mem_cons_self r.isEmpty
    have h2 := kids_count r (fun e he => h e (List.mem_cons_of_mem _ he))
    unfold kidsV kidsO
    rw [List.length_append, List.length_append, List.length_cons, Nat.add_mul]
    omega
theorem walk_count {T : Tr} {par : Int → Int} {N E : Nat} (B : TreeB T par N E) (most : Int) : ∀ (f : Nat) (v : Vis), (walkV T most f v).length ≤ 1 + (opensO T most f v.id v.depth).length * (E + 1)
  | 0, v => by
    show 1 ≤ _
    omega
  | f + 1, v => by
    by_cases hc : T.dir (T.over v.id) = true ∧ deepB most v.depth = true
    · have ho : opensO T most (f + 1) v.id v.depth = T.over v.id :: (if (T.shown (T.over v.id)).1 ≠ 0 then [] else kidsO (opensO T most f) v.depth (T.shown (T.over v.id)).2) := by rw [opensO, if_pos hc]
      rw [ho]
      by_cases hs : (T.shown (T.over v.id)).1 = 0
      · rw [walk_dir hc hs, if_neg (fun q => q hs), List.length_cons, List.length_append, List.length_singleton, List.length_cons, Nat.add_mul]
        have hk := kids_count (T := T) (most := most) (f := f) (E := E) (v := atV T v) (T.shown (T.over v.id)).2 (fun e he b => walk_count B most f (kidV (atV T v) e b))
        have hf := B.few _ hc.1
        have e1 : (atV T v).depth = v.depth := rfl
        rw [e1] at hk
        omega
      · rw [walk_err hc hs, if_pos hs]
        simp only [List.length_cons, List.length_nil]
        omega
    · rw [walk_leaf hc]
      show 1 ≤ _
      omega
theorem walk_few {T : Tr} {par : Int → Int} {N E : Nat} (B : TreeB T par N E) (most : Int) (f : Nat) (v : Vis) : (walkV T most f v).length ≤ 1 + N * (E + 1) := by
  have h1 := walk_count B most f v
  have h2 := nodup_few N _ (opens_nodup B most f v.id v.depth) (fun x hx => B.dir x (opens_desc B most f _ _ x hx).2.1)
  have h3 := Nat.mul_le_mul_right (E + 1) h2
  omega
/-! ### each entry once -/
/-! ### names -/
theorem app_sz (a b : ByteArray) : (a ++ b).size = a.size + b.size := by
  rw [Lib.size_eq, Lib.size_eq, Lib.size_eq, ← List.length_append]
  congr 1
  first | done | simp
theorem slash_size (s : ByteArray) : (slashN s).size ≤ s.size + 1 := by
  unfold slashN
  split
  · omega
  · rw [app_sz]
    exact Nat.le_refl _
theorem kids_names {T : Tr} {most : Int} {f K n : Nat} {v : Vis} : ∀ (l : List (ByteArray × Int)), (∀ e ∈ l, ∀ b, ∀ x ∈ walkV T most f (kidV v e b), x.name.size ≤ n) → ∀ x ∈ kidsV (walkV T most f) v l, x.name.size ≤ n
  | [], _, x, hx => by cases hx
  | e :: r, h, x, hx => by
    rcases List.mem_append.1 hx with hx | hx
    · exact h e List.mem_cons_self _ x hx
    · exact kids_names (K := K) r (fun e he => h e (List.mem_cons_of_mem _ he)) x hx
theorem walk_names {T : Tr} {most : Int} {K : Nat} (hK : ∀ d, ∀ e ∈ (T.shown d).2, e.1.size ≤ K) : ∀ (f : Nat) (v : Vis), ∀ x ∈ walkV T most f v, x.name.size ≤ v.name.size + f * (K + 1)
  | 0, v, x, hx => by
    obtain rfl := List.mem_singleton.1 hx
    exact Nat.le_add_right _ _
  | f + 1, v, x, hx => by
    by_cases hc : T.dir (T.over v.id) = true ∧ deepB most v.depth = true
    · by_cases hs : (T.shown (T.over v.id)).1 = 0
      · rw [walk_dir hc hs] at hx
        rcases List.mem_cons.1 hx with rfl | hx
        · exact Nat.le_add_right _ _
        · rcases List.mem_append.1 hx with hx | hx
          · refine kids_names (K := K) _ (fun e he b y hy => ?_) x hx
            have h1 := walk_names hK f _ y hy
            have h2 := hK _ e he
            have h3 := slash_size v.name
            have h4 : (kidV (atV T v) e b).name.size = (slashN v.name).size + e.1.size := app_sz _ _
            rw [Nat.add_mul, Nat.one_mul]
            omega
          · obtain rfl := List.mem_singleton.1 hx
            exact Nat.le_add_right _ _
      · rw [walk_err hc hs] at hx
        simp only [List.mem_cons, List.not_mem_nil, or_false] at hx
        rcases hx with rfl | rfl <;> exact Nat.le_add_right _ _
    · rw [walk_leaf hc] at hx
      obtain rfl := List.mem_singleton.1 hx
      exact Nat.le_add_right _ _
end Go.Proofs.YtpikndeefiediaaGreatDoor.G
