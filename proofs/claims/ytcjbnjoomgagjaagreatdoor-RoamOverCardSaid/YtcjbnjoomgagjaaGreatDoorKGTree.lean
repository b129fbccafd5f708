/-
  Directories gone through, by a model over any tree; that a lesser depth tells the same but for what is deeper, and that what is opened is closed. Conditions: each fact's own.
-/
import Derived.Lib.RuneCountTail
import Derived.Test.YtcjbnjoomgagjaaGreatDoorKRRealM
set_option linter.unusedVariables false
namespace Go.Proofs.YtcjbnjoomgagjaaGreatDoor.G
structure Vis where
  id : Int
  depth : Int
  name : ByteArray
  base : ByteArray
  last : Bool
  over : Bool
  err : Int
structure Tr where
  over : Int → Int
  dir : Int → Bool
  shown : Int → Int × List (ByteArray × Int)
def slashN (s : ByteArray) : ByteArray := if s.data.toList.getLast? = some 47 then s else s ++ ⟨#[47]⟩
def kidV (v : Vis) (e : ByteArray × Int) (last : Bool) : Vis := ⟨e.2, v.depth + 1, slashN v.name ++ e.1, e.1, last, false, 0⟩
def kidsV (g : Vis → List Vis) (v : Vis) : List (ByteArray × Int) → List Vis
  | [] => []
  | e :: r => g (kidV v e r.isEmpty) ++ kidsV g v r
def deepB (most d : Int) : Bool := (decide (most < 0) || decide (d < most)) && decide (d < 100)
def atV (T : Tr) (v : Vis) : Vis := ⟨T.over v.id, v.depth, v.name, v.base, v.last, v.over, v.err⟩
def errV (v : Vis) (e : Int) : Vis := ⟨v.id, v.depth, v.name, v.base, v.last, v.over, e⟩
def overV (v : Vis) : Vis := ⟨v.id, v.depth, v.name, v.base, v.last, true, v.err⟩
def walkV (T : Tr) (most : Int) : Nat → Vis → List Vis
  | 0, v => [atV T v]
  | f + 1, v => if T.dir (T.over v.id) = true ∧ deepB most v.depth = true then
      (if (T.shown (T.over v.id)).1 ≠ 0 then [atV T v, errV (atV T v) (T.shown (T.over v.id)).1]
       else atV T v :: (kidsV (walkV T most f) (atV T v) (T.shown (T.over v.id)).2 ++ [overV (atV T v)]))
    else [atV T v]
theorem walk_leaf {T : Tr} {most : Int} {f : Nat} {v : Vis} (h : ¬ (T.dir (T.over v.id) = true ∧ deepB most v.depth = true)) : walkV T most (f + 1) v = [atV T v] := by
  rw [walkV, if_neg h]
theorem walk_err {T : Tr} {most : Int} {f : Nat} {v : Vis} (h : T.dir (T.over v.id) = true ∧ deepB most v.depth = true) (hs : (T.shown (T.over v.id)).1 ≠ 0) : walkV T most (f + 1) v = [atV T v, errV (atV T v) (T.shown (T.over v.id)).1] := by
  rw [walkV, if_pos h, if_pos hs]
theorem walk_dir {T : Tr} {most : Int} {f : Nat} {v : Vis} (h : T.dir (T.over v.id) = true ∧ deepB most v.depth = true) (hs : (T.shown (T.over v.id)).1 = 0) : walkV T most (f + 1) v = atV T v :: (kidsV (walkV T most f) (atV T v) (T.shown (T.over v.id)).2 ++ [overV (atV T v)]) := by
  rw [walkV, if_pos h, if_neg (fun q => q hs)]
theorem kids_all {P : Vis → Prop} {g : Vis → List Vis} {v : Vis} : ∀ (l : List (ByteArray × Int)), (∀ e b, ∀ x ∈ g (kidV v e b), P x) → ∀ x ∈ kidsV g v l, P x
  | [], _, x, hx => by cases hx
  | e :: r, h, x, hx => by
    rcases List.mem_append.1 hx with hx | hx
    · exact h e _ x hx
    · exact kids_all r h x hx
theorem walk_deep (T : Tr) (most : Int) : ∀ (f : Nat) (v : Vis), ∀ x ∈ walkV T most f v, v.depth ≤ x.depth
  | 0, v, x, hx => by
    obtain rfl := List.mem_singleton.1 hx
    exact Int.le_refl _
  | f + 1, v, x, hx => by
    unfold walkV at hx
    split at hx
    · split at hx
      · simp only [List.mem_cons, List.not_mem_nil, or_false] at hx
        rcases hx with rfl | rfl <;> exact Int.le_refl _
      · rcases List.mem_cons.1 hx with rfl | hx
        · exact Int.le_refl _
        · rcases List.mem_append.1 hx with hx | hx
          · refine kids_all (P := fun x => v.depth ≤ x.depth) _ (fun e b y hy => ?_) x hx
            have := walk_deep T most f _ y hy
            have e1 : (kidV (atV T v) e b).depth = v.depth + 1 := rfl
            omega
          · obtain rfl := List.mem_singleton.1 hx
            exact Int.le_refl _
    · obtain rfl := List.mem_singleton.1 hx
      exact Int.le_refl _
def keepB (k : Int) (v : Vis) : Bool := !(decide (k < v.depth) || (decide (v.depth = k) && (v.over || decide (v.err ≠ 0))))
theorem filter_none {k : Int} {l : List Vis} (h : ∀ x ∈ l, k < x.depth) : l.filter (keepB k) = [] := by
  rw [List.filter_eq_nil_iff]
  intro x hx
  unfold keepB
  rw [decide_eq_true (h x hx), Bool.true_or]
  exact Bool.noConfusion
theorem kids_filter {k : Int} {g g' : Vis → List Vis} {v : Vis} : ∀ (l : List (ByteArray × Int)), (∀ e b, (g (kidV v e b)).filter (keepB k) = g' (kidV v e b)) → (kidsV g v l).filter (keepB k) = kidsV g' v l
  | [], _ => rfl
  | e :: r, h => by
    unfold kidsV
    rw [List.filter_append, h, kids_filter r h]
theorem walk_less (T : Tr) (k : Int) (hk0 : 0 ≤ k) (hk : k < 100) : ∀ (f : Nat) (v : Vis), v.depth ≤ k → v.over = false → v.err = 0 → (walkV T (-1) f v).filter (keepB k) = walkV T k f v
  | 0, v, hd, ho, he => by
    unfold walkV
    rw [List.filter_cons, if_pos, List.filter_nil]
    unfold keepB atV
    simp only [ho, he, decide_eq_false (show ¬ k < v.depth by omega), ne_eq, not_true_eq_false, decide_false, Bool.or_self, Bool.and_false, Bool.not_false]
  | f + 1, v, hd, ho, he => by
    have hkeep : keepB k (atV T v) = true := by
      unfold keepB atV
      simp only [ho, he, decide_eq_false (show ¬ k < v.depth by omega), ne_eq, not_true_eq_false, decide_false, Bool.or_self, Bool.and_false, Bool.not_false]
    have hdeep : deepB (-1) v.depth = true := by
      unfold deepB
      rw [decide_eq_true (show (-1 : Int) < 0 by omega), decide_eq_true (show v.depth < 100 by omega)]
      rfl
    have hdk : deepB k v.depth = decide (v.depth < k) := by
      unfold deepB
      rw [decide_eq_false (show ¬ k < 0 by omega), decide_eq_true (show v.depth < 100 by omega), Bool.false_or, Bool.and_true]
    have hk2 : v.depth < k → ∀ x : Vis, x.depth = v.depth → keepB k x = true := fun hv x hx => by
      unfold keepB
      rw [hx, decide_eq_false (show ¬ k < v.depth by omega), decide_eq_false (show ¬ v.depth = k by omega)]
      rfl
    by_cases hT : T.dir (T.over v.id) = true
    · by_cases hv : v.depth < k
      · have c1 : T.dir (T.over v.id) = true ∧ deepB (-1) v.depth = true := ⟨hT, hdeep⟩
        have c2 : T.dir (T.over v.id) = true ∧ deepB k v.depth = true := ⟨hT, by rw [hdk]; exact decide_eq_true hv⟩
        by_cases hs : (T.shown (T.over v.id)).1 = 0
        · rw [walk_dir c1 hs, walk_dir c2 hs, List.filter_cons, if_pos hkeep, List.filter_append, List.filter_cons, if_pos (hk2 hv (overV (atV T v)) rfl), List.filter_nil, kids_filter _ (fun e b => walk_less T k hk0 hk f _ (by show v.depth + 1 ≤ k; omega) rfl rfl)]
        · rw [walk_err c1 hs, walk_err c2 hs, List.filter_cons, if_pos hkeep, List.filter_cons, if_pos (hk2 hv (errV (atV T v) (T.shown (T.over v.id)).1) rfl), List.filter_nil]
      · have c1 : T.dir (T.over v.id) = true ∧ deepB (-1) v.depth = true := ⟨hT, hdeep⟩
        have c2 : ¬ (T.dir (T.over v.id) = true ∧ deepB k v.depth = true) := fun q => hv (of_decide_eq_true (by rw [← hdk]; exact q.2))
        have hvk : v.depth = k := by omega
        by_cases hs : (T.shown (T.over v.id)).1 = 0
        · have ho2 : keepB k (overV (atV T v)) = false := by
            unfold keepB
            have e1 : (overV (atV T v)).depth = v.depth := rfl
            have e2 : (overV (atV T v)).over = true := rfl
            rw [e1, e2, decide_eq_true hvk]
            simp
          rw [walk_dir c1 hs, walk_leaf c2, List.filter_cons, if_pos hkeep, List.filter_append, filter_none (l := kidsV _ _ _), List.filter_cons, if_neg (by rw [ho2]; decide), List.filter_nil, List.nil_append]
          refine kids_all (P := fun x => k < x.depth) _ (fun e b y hy => ?_)
          have := walk_deep T (-1) f _ y hy
          have e1 : (kidV (atV T v) e b).depth = v.depth + 1 := rfl
          omega
        · have he2 : keepB k (errV (atV T v) (T.shown (T.over v.id)).1) = false := by
            unfold keepB
            have e1 : (errV (atV T v) (T.shown (T.over v.id)).1).depth = v.depth := rfl
            have e2 : (errV (atV T v) (T.shown (T.over v.id)).1).err = (T.shown (T.over v.id)).1 := rfl
            rw [e1, e2, decide_eq_true hvk, decide_eq_true hs]
            simp
          rw [walk_err c1 hs, walk_leaf c2, List.filter_cons, if_pos hkeep, List.filter_cons, if_neg (by rw [he2]; decide), List.filter_nil]
    · rw [walk_leaf (fun q => hT q.1), walk_leaf (fun q => hT q.1), List.filter_cons, if_pos hkeep, List.filter_nil]
def stepO (dir : Int → Bool) (most : Int) (L : List Vis) (i : Nat) (S : List ByteArray) : Option (List ByteArray) :=
  match L[i]? with
  | none => none
  | some v =>
    if v.over = true then (match S.getLast? with
      | none => none
      | some s => if s = v.name ∧ v.depth = (S.length : Int) - 1 then some S.dropLast else none)
    else if v.err ≠ 0 then (if i = 0 then none else match L[i - 1]? with
      | none => none
      | some u => if u.name = v.name ∧ u.over = false then some S else none)
    else if v.depth ≠ (S.length : Int) then none
    else if dir v.id = true ∧ deepB most v.depth = true ∧ ¬ (∃ u, L[i + 1]? = some u ∧ u.err ≠ 0 ∧ u.name = v.name ∧ u.depth = v.depth) then some (S ++ [v.name])
    else some S
inductive StepsO (dir : Int → Bool) (most : Int) (L : List Vis) : Nat → List ByteArray → Nat → List ByteArray → Prop
  | here (i : Nat) (S : List ByteArray) : StepsO dir most L i S i S
  | step {i j : Nat} {S S1 S' : List ByteArray} : stepO dir most L i S = some S1 → StepsO dir most L (i + 1) S1 j S' → StepsO dir most L i S j S'
theorem StepsO.trans {dir : Int → Bool} {most : Int} {L : List Vis} {i j k : Nat} {S S1 S2 : List ByteArray} (h : StepsO dir most L i S j S1) (h2 : StepsO dir most L j S1 k S2) : StepsO dir most L i S k S2 := by
  induction h with
  | here => exact h2
  | step q _ ih => exact .step q (ih h2)
theorem StepsO.le {dir : Int → Bool} {most : Int} {L : List Vis} {i j : Nat} {S S1 : List ByteArray} (h : StepsO dir most L i S j S1) : i ≤ j := by
  induction h with
  | here => exact Nat.le_refl _
  | step _ _ ih => omega
theorem StepsO.next {dir : Int → Bool} {most : Int} {L : List Vis} {i j : Nat} {S S' : List ByteArray} (h : StepsO dir most L i S j S') (hi : i < j) : ∃ S1, stepO dir most L i S = some S1 ∧ StepsO dir most L (i + 1) S1 j S' := by
  cases h with
  | here => omega
  | step q r => exact ⟨_, q, r⟩
def Here (L : List Vis) (i : Nat) (W : List Vis) : Prop := ∀ k x, W[k]? = some x → L[i + k]? = some x
theorem Here.left {L : List Vis} {i : Nat} {A B : List Vis} (h : Here L i (A ++ B)) : Here L i A := fun k x hx => h k x (by rw [List.getElem?_append_left (List.getElem?_eq_some_iff.1 hx).1]; exact hx)
theorem Here.right {L : List Vis} {i : Nat} {A B : List Vis} (h : Here L i (A ++ B)) : Here L (i + A.length) B := fun k x hx => by
  rw [Nat.add_assoc]
  exact h _ x (by rw [List.getElem?_append_right (by omega), Nat.add_sub_cancel_left]; exact hx)
theorem Here.tail {L : List Vis} {i : Nat} {a : Vis} {B : List Vis} (h : Here L i (a :: B)) : Here L (i + 1) B := fun k x hx => by
  have := h (k + 1) x hx
  rwa [show i + (k + 1) = i + 1 + k by omega] at this
theorem Here.head {L : List Vis} {i : Nat} {a : Vis} {B : List Vis} (h : Here L i (a :: B)) : L[i]? = some a := h 0 a rfl
end Go.Proofs.YtcjbnjoomgagjaaGreatDoor.G
namespace Go.Proofs.YtcjbnjoomgagjaaGreatDoor.G
inductive Desc (par : Int → Int) (d : Int) : Int → Prop
  | here : Desc par d d
  | step (x : Int) : par x < x → Desc par d (par x) → Desc par d x
theorem Desc.le {par : Int → Int} {d x : Int} (h : Desc par d x) : d ≤ x := by
  induction h with
  | here => exact Int.le_refl _
  | step x hx _ ih => omega
theorem Desc.two {par : Int → Int} {a b x : Int} (ha : Desc par a x) (hb : Desc par b x) : Desc par a b ∨ Desc par b a := by
  induction ha with
  | here => exact .inr hb
  | step x hy h ih =>
    cases hb with
    | here => exact .inl (.step _ hy h)
    | step _ _ h' => exact ih h'
theorem Desc.sibs {par : Int → Int} {a b d x : Int} (ha : par a = d) (hb : par b = d) (la : d < a) (lb : d < b) (h1 : Desc par a x) (h2 : Desc par b x) : a = b := by
  have key : ∀ {a b : Int}, par b = d → d < a → Desc par a b → a = b := fun {a b} hb la h => by
    cases h with
    | here => rfl
    | step _ _ h => rw [hb] at h; have := h.le; omega
  rcases h1.two h2 with h | h
  · exact key hb la h
  · exact (key ha lb h).symm
structure TreeB (T : Tr) (par : Int → Int) (N E : Nat) : Prop where
  dir : ∀ i, T.dir i = true → 0 ≤ i ∧ i < (N : Int)
  up : ∀ d, T.dir d = true → ∀ e ∈ (T.shown d).2, T.dir (T.over e.2) = true → par (T.over e.2) = d ∧ d < T.over e.2
  one : ∀ d, T.dir d = true → (T.shown d).2.Pairwise fun a b => T.dir (T.over a.2) = true → T.over a.2 ≠ T.over b.2
  few : ∀ d, T.dir d = true → (T.shown d).2.length ≤ E
def kidsO (g : Int → Int → List Int) (d : Int) : List (ByteArray × Int) → List Int
  | [] => []
  | e :: r => g e.2 (d + 1) ++ kidsO g d r
def opensO (T : Tr) (most : Int) : Nat → Int → Int → List Int
  | 0, _, _ => []
  | f + 1, i, d => if T.dir (T.over i) = true ∧ deepB most d = true then T.over i :: (if (T.shown (T.over i)).1 ≠ 0 then [] else kidsO (opensO T most f) d (T.shown (T.over i)).2) else []
theorem kids_mem {g : Int → Int → List Int} {d x : Int} : ∀ {l : List (ByteArray × Int)}, x ∈ kidsO g d l → ∃ e ∈ l, x ∈ g e.2 (d + 1)
  | [], h => by cases h
  | e :: r, h => by
    rcases List.mem_append.1 h with h | h
    · exact ⟨e, List.mem_cons_self, h⟩
    · obtain ⟨e', he', h'⟩ := kids_mem h
      exact ⟨e', List.mem_cons_of_mem _ he', h'⟩
theorem Desc.trans {par : Int → Int} {a b c : Int} (h : Desc par a b) (h2 : Desc par b c) : Desc par a c := by
  induction h2 with
  | here => exact h
  | step y hy _ ih => exact .step y hy ih
theorem opens_desc {T : Tr} {par : Int → Int} {N E : Nat} (B : TreeB T par N E) (most : Int) : ∀ (f : Nat) (i d : Int), ∀ x ∈ opensO T most f i d, T.dir (T.over i) = true ∧ T.dir x = true ∧ Desc par (T.over i) x
  | 0, i, d, x, hx => by cases hx
  | f + 1, i, d, x, hx => by
    unfold opensO at hx
    split at hx
    · rename_i hc
      rcases List.mem_cons.1 hx with rfl | hx
      · exact ⟨hc.1, hc.1, .here⟩
      · split at hx
        · cases hx
        · obtain ⟨e, he, hxe⟩ := kids_mem hx
          obtain ⟨h1, h2, h3⟩ := opens_desc B most f _ _ x hxe
          obtain ⟨u1, u2⟩ := B.up _ hc.1 e he h1
          exact ⟨hc.1, h2, .trans (.step _ (by rw [u1]; exact u2) (by rw [u1]; exact .here)) h3⟩
    · cases hx
theorem kids_nodup {g : Int → Int → List Int} {d : Int} : ∀ (l : List (ByteArray × Int)), (∀ e ∈ l, (g e.2 (d + 1)).Nodup) → l.Pairwise (fun a b => ∀ x ∈ g a.2 (d + 1), x ∉ g b.2 (d + 1)) → (kidsO g d l).Nodup
  | [], _, _ => List.nodup_nil
  | e :: r, h, hp => by
    obtain ⟨p1, p2⟩ := List.pairwise_cons.1 hp
    unfold kidsO
    refine List.nodup_append.2 ⟨h e List.mem_cons_self, kids_nodup r (fun e he => h e (List.mem_cons_of_mem _ he)) p2, fun x hx y hy hxy => ?_⟩
    subst hxy
    obtain ⟨e', he', h'⟩ := kids_mem hy
    exact p1 e' he' x hx h'
theorem opens_nodup {T : Tr} {par : Int → Int} {N E : Nat} (B : TreeB T par N E) (most : Int) : ∀ (f : Nat) (i d : Int), (opensO T most f i d).Nodup
  | 0, i, d => List.nodup_nil
  | f + 1, i, d => by
    unfold opensO
    split
    · rename_i hc
      refine List.nodup_cons.2 ⟨fun hx => ?_, ?_⟩
      · split at hx
        · cases hx
        · obtain ⟨e, he, hxe⟩ := kids_mem hx
          obtain ⟨h1, h2, h3⟩ := opens_desc B most f _ _ _ hxe
          obtain ⟨u1, u2⟩ := B.up _ hc.1 e he h1
          have := h3.le
          omega
      · split
        · exact List.nodup_nil
        · refine kids_nodup _ (fun e he => opens_nodup B most f _ _) ?_
          have hone := B.one _ hc.1
          have hall : ∀ e ∈ (T.shown (T.over i)).2, ∀ x ∈ opensO T most f e.2 (d + 1), T.dir (T.over e.2) = true ∧ par (T.over e.2) = T.over i ∧ T.over i < T.over e.2 ∧ Desc par (T.over e.2) x := fun e he x hx => by
            obtain ⟨h1, h2, h3⟩ := opens_desc B most f _ _ _ hx
            obtain ⟨u1, u2⟩ := B.up _ hc.1 e he h1
            exact ⟨h1, u1, u2, h3⟩
          generalize (T.shown (T.over i)).2 = l at hone hall
          induction l with
          | nil => exact List.Pairwise.nil
          | cons a r ih =>
            obtain ⟨p1, p2⟩ := List.pairwise_cons.1 hone
            refine List.pairwise_cons.2 ⟨fun b hb x hx hx' => ?_, ih p2 (fun e he => hall e (List.mem_cons_of_mem _ he))⟩
            obtain ⟨a1, a2, a3, a4⟩ := hall a List.mem_cons_self x hx
            obtain ⟨b1, b2, b3, b4⟩ := hall b (List.mem_cons_of_mem _ hb) x hx'
            exact p1 b hb a1 (Desc.sibs a2 b2 a3 b3 a4 b4)
    · exact List.nodup_nil
theorem nodup_few : ∀ (N : Nat) (l : List Int), l.Nodup → (∀ x ∈ l, 0 ≤ x ∧ x < (N : Int)) → l.length ≤ N
  | 0, l, _, h => by
    cases l with
    | nil => exact Nat.le_refl _
    | cons x r => have := h x List.mem_cons_self; omega
  | N + 1, l, hn, h => by
    have h1 := nodup_few N (l.filter fun x => x != (N : Int)) (hn.sublist List.filter_sublist) (fun x hx => by
      obtain ⟨m, q⟩ := List.mem_filter.1 hx
      have := h x m
      have : x ≠ (N : Int) := by simpa using q
      omega)
    have h2 : l.length ≤ (l.filter fun x => x != (N : Int)).length + 1 := by
      clear h1 h
      induction l with
      | nil => exact Nat.zero_le _
      | cons x r ih =>
        obtain ⟨n1, n2⟩ := List.nodup_cons.1 hn
        by_cases q : x = (N : Int)
        · have : r.filter (fun x => x != (N : Int)) = r := List.filter_eq_self.2 fun y hy => by
            have : y ≠ (N : Int) := fun z => n1 (by rw [q, ← z]; exact hy)
            simpa using this
          rw [List.filter_cons, if_neg (by simp [q]), this, List.length_cons]
          exact Nat.le_refl _
        · rw [List.filter_cons, if_pos (by simpa using q), List.length_cons, List.length_cons]
          have := ih n2
          omega
    omega
theorem kids_count {T : Tr} {most : Int} {f : Nat} {E : Nat} {v : Vis} : ∀ (l : List (ByteArray × Int)), (∀ e ∈ l, ∀ b, (walkV T most f (kidV v e b)).length ≤ 1 + (opensO T most f e.2 (v.depth + 1)).length * (E + 1)) → (kidsV (walkV T most f) v l).length ≤ l.length + (kidsO (opensO T most f) v.depth l).length * (E + 1)
  | [], _ => Nat.zero_le _
  | e :: r, h => by
    have h1 := h e List.mem_cons_self r.isEmpty
    have h2 := kids_count r (fun e he => h e (List.mem_cons_of_mem _ he))
    unfold kidsV kidsO
    rw [List.length_append, List.length_append, List.length_cons, Nat.add_mul]
    omega
theorem walk_count {T : Tr} {par : Int → Int} {N E : Nat} (B : TreeB T par N E) (most : Int) : ∀ (f : Nat) (v : Vis), (walkV T most f v).length ≤ 1 + (opensO T most f v.id v.depth).length * (E + 1)
  | 0, v => by
    show 1 ≤ _
    omega
  | f + 1, v => by
    by_cases hc : T.dir (T.over v.id) = true ∧ deepB most v.depth = true
    · have ho : opensO T most (f + 1) v.id v.depth = T.over v.id :: (if (T.shown (T.over v.id)).1 ≠ 0 then [] else kidsO (opensO T most f) v.depth (T.shown (T.over v.id)).2) := by rw [opensO, if_pos hc]
      rw [ho]
      by_cases hs : (T.shown (T.over v.id)).1 = 0
      · rw [walk_dir hc hs, if_neg (fun q => q hs), List.length_cons, List.length_append, List.length_singleton, List.length_cons, Nat.add_mul]
        have hk := kids_count (T := T) (most := most) (f := f) (E := E) (v := atV T v) (T.shown (T.over v.id)).2 (fun e he b => walk_count B most f (kidV (atV T v) e b))
        have hf := B.few _ hc.1
        have e1 : (atV T v).depth = v.depth := rfl
        rw [e1] at hk
        omega
      · rw [walk_err hc hs, if_pos hs]
        simp only [List.length_cons, List.length_nil]
        omega
    · rw [walk_leaf hc]
      show 1 ≤ _
      omega
theorem walk_few {T : Tr} {par : Int → Int} {N E : Nat} (B : TreeB T par N E) (most : Int) (f : Nat) (v : Vis) : (walkV T most f v).length ≤ 1 + N * (E + 1) := by
  have h1 := walk_count B most f v
  have h2 := nodup_few N _ (opens_nodup B most f v.id v.depth) (fun x hx => B.dir x (opens_desc B most f _ _ x hx).2.1)
  have h3 := Nat.mul_le_mul_right (E + 1) h2
  omega
theorem app_sz (a b : ByteArray) : (a ++ b).size = a.size + b.size := by
  rw [Lib.size_eq, Lib.size_eq, Lib.size_eq, ← List.length_append]
  congr 1
  first | done | simp
theorem slash_size (s : ByteArray) : (slashN s).size ≤ s.size + 1 := by
  unfold slashN
  split
  · omega
  · rw [app_sz]
    exact Nat.le_refl _
theorem kids_names {T : Tr} {most : Int} {f K n : Nat} {v : Vis} : ∀ (l : List (ByteArray × Int)), (∀ e ∈ l, ∀ b, ∀ x ∈ walkV T most f (kidV v e b), x.name.size ≤ n) → ∀ x ∈ kidsV (walkV T most f) v l, x.name.size ≤ n
  | [], _, x, hx => by cases hx
  | e :: r, h, x, hx => by
    rcases List.mem_append.1 hx with hx | hx
    · exact h e List.mem_cons_self _ x hx
    · exact kids_names (K := K) r (fun e he => h e (List.mem_cons_of_mem _ he)) x hx
theorem walk_names {T : Tr} {most : Int} {K : Nat} (hK : ∀ d, ∀ e ∈ (T.shown d).2, e.1.size ≤ K) : ∀ (f : Nat) (v : Vis), ∀ x ∈ walkV T most f v, x.name.size ≤ v.name.size + f * (K + 1)
  | 0, v, x, hx => by
    obtain rfl := List.mem_singleton.1 hx
    exact Nat.le_add_right _ _
  | f + 1, v, x, hx => by
    by_cases hc : T.dir (T.over v.id) = true ∧ deepB most v.depth = true
    · by_cases hs : (T.shown (T.over v.id)).1 = 0
      · rw [walk_dir hc hs] at hx
        rcases List.mem_cons.1 hx with rfl | hx
        · exact Nat.le_add_right _ _
        · rcases List.mem_append.1 hx with hx | hx
          · refine kids_names (K := K) _ (fun e he b y hy => ?_) x hx
            have h1 := walk_names hK f _ y hy
            have h2 := hK _ e he
            have h3 := slash_size v.name
            have h4 : (kidV (atV T v) e b).name.size = (slashN v.name).size + e.1.size := app_sz _ _
            rw [Nat.add_mul, Nat.one_mul]
            omega
          · obtain rfl := List.mem_singleton.1 hx
            exact Nat.le_add_right _ _
      · rw [walk_err hc hs] at hx
        simp only [List.mem_cons, List.not_mem_nil, or_false] at hx
        rcases hx with rfl | rfl <;> exact Nat.le_add_right _ _
    · rw [walk_leaf hc] at hx
      obtain rfl := List.mem_singleton.1 hx
      exact Nat.le_add_right _ _
end Go.Proofs.YtcjbnjoomgagjaaGreatDoor.G
namespace Go.Proofs.YtcjbnjoomgagjaaGreatDoor.O
structure Tot {α : Type} (c : α → α → Int) : Prop where
  unit : ∀ a b, c a b = -1 ∨ c a b = 0 ∨ c a b = 1
  anti : ∀ a b, c b a = -c a b
  trans : ∀ x y z, c x y ≤ 0 → c y z ≤ 0 → c x z ≤ 0
theorem Tot.self {α : Type} {c : α → α → Int} (h : Tot c) (a : α) : c a a = 0 := by
  have := h.anti a a
  omega
theorem Tot.pull {α β : Type} {c : α → α → Int} (h : Tot c) (f : β → α) : Tot fun a b => c (f a) (f b) :=
  ⟨fun _ _ => h.unit _ _, fun _ _ => h.anti _ _, fun _ _ _ => h.trans _ _ _⟩
def thenC {α : Type} (c d : α → α → Int) (a b : α) : Int := if c a b = 0 then d a b else c a b
theorem Tot.mid {α : Type} {c : α → α → Int} (h : Tot c) {x y z : α} (h1 : c x y ≤ 0) (h2 : c y z ≤ 0) (h3 : c x z = 0) : c x y = 0 ∧ c y z = 0 := by
  have e := h.anti x z
  have a1 := h.trans y z x h2 (by omega)
  have a2 := h.trans z x y (by omega) h1
  have b1 := h.anti x y
  have b2 := h.anti y z
  omega
theorem Tot.then {α : Type} {c d : α → α → Int} (h : Tot c) (k : Tot d) : Tot (thenC c d) := by
  refine ⟨fun a b => ?_, fun a b => ?_, fun x y z h1 h2 => ?_⟩
  · unfold thenC
    split
    · exact k.unit a b
    · exact h.unit a b
  · unfold thenC
    have := h.anti a b
    by_cases q : c a b = 0
    · rw [if_pos q, if_pos (by omega)]
      exact k.anti a b
    · rw [if_neg q, if_neg (by omega)]
      exact this
  · have p1 : c x y ≤ 0 := by
      unfold thenC at h1
      split at h1 <;> omega
    have p2 : c y z ≤ 0 := by
      unfold thenC at h2
      split at h2 <;> omega
    have p3 := h.trans x y z p1 p2
    unfold thenC
    split
    · rename_i q
      obtain ⟨q1, q2⟩ := h.mid p1 p2 q
      unfold thenC at h1 h2
      rw [if_pos q1] at h1
      rw [if_pos q2] at h2
      exact k.trans x y z h1 h2
    · exact p3
def lexC {α : Type} (c : α → α → Int) : List α → List α → Int
  | [], [] => 0
  | [], _ :: _ => -1
  | _ :: _, [] => 1
  | a :: x, b :: y => if c a b = 0 then lexC c x y else c a b
theorem Tot.lex {α : Type} {c : α → α → Int} (h : Tot c) : Tot (lexC c) := by
  refine ⟨fun a => ?_, fun a => ?_, fun x => ?_⟩
  · induction a with
    | nil => intro b; cases b; exact .inr (.inl rfl); exact .inl rfl
    | cons a x ih =>
      intro b
      cases b with
      | nil => exact .inr (.inr rfl)
      | cons b y =>
        rw [lexC]
        split
        · exact ih y
        · exact h.unit a b
  · induction a with
    | nil => intro b; cases b; rfl; rfl
    | cons a x ih =>
      intro b
      cases b with
      | nil => rfl
      | cons b y =>
        have := h.anti a b
        rw [lexC, lexC]
        by_cases q : c a b = 0
        · rw [if_pos q, if_pos (by omega)]
          exact ih y
        · rw [if_neg q, if_neg (by omega)]
          exact this
  · induction x with
    | nil =>
      intro y z _ _
      cases z with
      | nil => exact Int.le_refl _
      | cons _ _ => show (-1 : Int) ≤ 0; decide
    | cons a x ih =>
      intro y z h1 h2
      cases y with
      | nil => exact absurd (show (1 : Int) ≤ 0 from h1) (by decide)
      | cons b y =>
        cases z with
        | nil => exact absurd (show (1 : Int) ≤ 0 from h2) (by decide)
        | cons d z =>
          rw [lexC] at h1 h2 ⊢
          have p1 : c a b ≤ 0 := by split at h1 <;> omega
          have p2 : c b d ≤ 0 := by split at h2 <;> omega
          have p3 := h.trans a b d p1 p2
          split
          · rename_i q
            obtain ⟨q1, q2⟩ := h.mid p1 p2 q
            rw [if_pos q1] at h1
            rw [if_pos q2] at h2
            exact ih y z h1 h2
          · exact p3
theorem lex_zero {α : Type} {c : α → α → Int} (hc : ∀ a b, c a b = 0 → a = b) : ∀ a b, lexC c a b = 0 → a = b
  | [], [], _ => rfl
  | [], _ :: _, h => absurd (show (-1 : Int) = 0 from h) (by decide)
  | _ :: _, [], h => absurd (show (1 : Int) = 0 from h) (by decide)
  | a :: x, b :: y, h => by
    rw [lexC] at h
    split at h
    · rename_i q
      rw [hc a b q, lex_zero hc x y h]
    · rename_i q
      exact absurd h q
def cmpI (a b : Int) : Int := if a < b then -1 else if b < a then 1 else 0
theorem cmpI_tot : Tot cmpI := by
  refine ⟨fun a b => ?_, fun a b => ?_, fun x y z h1 h2 => ?_⟩
  · unfold cmpI; split; exact .inl rfl; split; exact .inr (.inr rfl); exact .inr (.inl rfl)
  · unfold cmpI
    by_cases h : a < b
    · rw [if_pos h, if_neg (by omega), if_pos h]; rfl
    · rw [if_neg h]
      by_cases k : b < a
      · rw [if_pos k, if_pos k]
        rw [if_neg h]
      · rw [if_neg k, if_neg k, if_neg h]; rfl
  · have e1 : x ≤ y := by
      unfold cmpI at h1
      split at h1
      · omega
      · split at h1
        · omega
        · omega
    have e2 : y ≤ z := by
      unfold cmpI at h2
      split at h2
      · omega
      · split at h2
        · omega
        · omega
    unfold cmpI
    split
    · decide
    · rw [if_neg (by omega)]
      exact Int.le_refl _
theorem cmpI_zero {a b : Int} (h : cmpI a b = 0) : a = b := by
  unfold cmpI at h
  split at h
  · cases h
  · split at h
    · cases h
    · omega
structure Strict (n : Nat) (A : Nat → Nat → Bool) : Prop where
  irr : ∀ i, i < n → A i i = false
  asy : ∀ i k, i < n → k < n → A i k = true → A k i = false
  tri : ∀ i j k, i < n → j < n → k < n → A i j = true → A j k = true → A i k = true
  tot : ∀ i k, i < n → k < n → i ≠ k → A i k = true ∨ A k i = true
def SortP (n : Nat) (A : Nat → Nat → Bool) (p : List Nat) : Prop := p.Perm (List.range n) ∧ p.Pairwise fun i k => A i k = true
theorem SortP.lt {n : Nat} {A : Nat → Nat → Bool} {p : List Nat} (h : SortP n A p) {i : Nat} (hi : i ∈ p) : i < n := List.mem_range.1 (h.1.mem_iff.1 hi)
theorem SortP.length {n : Nat} {A : Nat → Nat → Bool} {p : List Nat} (h : SortP n A p) : p.length = n := by rw [h.1.length_eq, List.length_range]
theorem perm_one {n : Nat} {A : Nat → Nat → Bool} (hA : Strict n A) : ∀ {p q : List Nat}, (∀ i ∈ p, i < n) → p.Perm q → (p.Pairwise fun i k => A i k = true) → (q.Pairwise fun i k => A i k = true) → p = q
  | [], q, _, hp, _, _ => (List.nil_perm.1 hp).symm
  | a :: x, [], _, hp, _, _ => by have := hp.length_eq; simp at this
  | a :: x, b :: y, hn, hp, h1, h2 => by
    obtain ⟨p1, p2⟩ := List.pairwise_cons.1 h1
    obtain ⟨q1, q2⟩ := List.pairwise_cons.1 h2
    have ha : a < n := hn a List.mem_cons_self
    have hb : b < n := hn b (hp.mem_iff.2 List.mem_cons_self)
    have e : a = b := Classical.byContradiction fun ne => by
      have m1 : b ∈ x := by
        rcases List.mem_cons.1 (hp.mem_iff.2 List.mem_cons_self) with z | z
        · exact absurd z.symm ne
        · exact z
      have m2 : a ∈ y := by
        rcases List.mem_cons.1 (hp.mem_iff.1 List.mem_cons_self) with z | z
        · exact absurd z ne
        · exact z
      have t1 := p1 b m1
      have t2 := q1 a m2
      rw [hA.asy a b ha hb t1] at t2
      cases t2
    subst e
    rw [perm_one hA (fun i hi => hn i (List.mem_cons_of_mem _ hi)) ((List.perm_cons a).1 hp) p2 q2]
theorem SortP.one {n : Nat} {A : Nat → Nat → Bool} (hA : Strict n A) {p q : List Nat} (h : SortP n A p) (k : SortP n A q) : p = q :=
  perm_one hA (fun _ hi => h.lt hi) (h.1.trans k.1.symm) h.2 k.2
end Go.Proofs.YtcjbnjoomgagjaaGreatDoor.O
namespace Go.Proofs.YtcjbnjoomgagjaaGreatDoor.O
structure Ky where
  name : ByteArray
  size : Int
  time : Int
  dir : Bool
theorem Tot.flip {α : Type} {c : α → α → Int} (h : Tot c) : Tot fun a b => c b a :=
  ⟨fun a b => h.unit b a, fun a b => h.anti b a, fun x y z h1 h2 => h.trans z y x h2 h1⟩
theorem tot_none {α : Type} : Tot fun _ _ : α => (0 : Int) := ⟨fun _ _ => .inr (.inl rfl), fun _ _ => rfl, fun _ _ _ _ _ => Int.le_refl _⟩
def cmpB (a b : UInt8) : Int := cmpI a.toNat b.toNat
theorem cmpB_tot : Tot cmpB := cmpI_tot.pull fun a : UInt8 => (a.toNat : Int)
theorem cmpB_zero {a b : UInt8} (h : cmpB a b = 0) : a = b := by
  have := cmpI_zero h
  exact UInt8.toNat_inj.1 (by omega)
def lessL : List UInt8 → List UInt8 → Int := lexC cmpB
theorem lessL_tot : Tot lessL := cmpB_tot.lex
theorem lessL_zero {a b : List UInt8} (h : lessL a b = 0) : a = b := lex_zero (fun _ _ h => cmpB_zero h) a b h
def extGo (l : List UInt8) : Nat → List UInt8
  | 0 => []
  | i + 1 => if l[i + 1]? = some 46 then l.drop (i + 1) else extGo l i
def extL (l : List UInt8) : List UInt8 := extGo l (l.length - 1)
def digB (b : UInt8) : Bool := decide (48 ≤ b.toNat) && decide (b.toNat ≤ 57)
def numT (d : List UInt8) : List UInt8 :=
  33 :: UInt8.ofNat ((d.dropWhile (· == 48)).length / 256) :: UInt8.ofNat ((d.dropWhile (· == 48)).length % 256) :: d.dropWhile (· == 48)
def tokGo : Nat → List UInt8 → List (List UInt8)
  | 0, _ => []
  | _ + 1, [] => []
  | n + 1, b :: r => if digB b = true then numT ((b :: r).takeWhile digB) :: tokGo n ((b :: r).dropWhile digB) else [126, b] :: tokGo n r
def toks (l : List UInt8) : List (List UInt8) := tokGo l.length l
theorem tokGo_more : ∀ (n m : Nat) (l : List UInt8), l.length ≤ n → l.length ≤ m → tokGo n l = tokGo m l
  | 0, 0, _, _, _ => rfl
  | 0, m + 1, [], _, _ => rfl
  | n + 1, 0, [], _, _ => rfl
  | n + 1, m + 1, [], _, _ => rfl
  | n + 1, m + 1, b :: r, h1, h2 => by
    rw [tokGo, tokGo]
    have hr : r.length ≤ n := by simpa using h1
    have hs : r.length ≤ m := by simpa using h2
    by_cases hb : digB b = true
    · rw [if_pos hb, if_pos hb]
      have hd : ((b :: r).dropWhile digB).length ≤ r.length := by
        rw [List.dropWhile_cons, if_pos hb]
        exact (List.dropWhile_sublist _).length_le
      rw [tokGo_more n m _ (by omega) (by omega)]
    · rw [if_neg hb, if_neg hb, tokGo_more n m r hr hs]
def verL (a b : List UInt8) : Int := lexC lessL (toks a) (toks b)
theorem verL_tot : Tot verL := lessL_tot.lex.pull toks
def ordC (o : Int) (a b : Ky) : Int :=
  if o = 1 then cmpI b.size a.size else if o = 2 then cmpI b.time a.time else if o = 3 then lessL (extL a.name.data.toList) (extL b.name.data.toList) else if o = 4 then verL a.name.data.toList b.name.data.toList else 0
theorem ordC_tot (o : Int) : Tot (ordC o) := by
  unfold ordC
  by_cases h1 : o = 1
  · simp only [if_pos h1]
    exact (cmpI_tot.flip).pull Ky.size
  · simp only [if_neg h1]
    by_cases h2 : o = 2
    · simp only [if_pos h2]
      exact (cmpI_tot.flip).pull Ky.time
    · simp only [if_neg h2]
      by_cases h3 : o = 3
      · simp only [if_pos h3]
        exact lessL_tot.pull fun a : Ky => extL a.name.data.toList
      · simp only [if_neg h3]
        by_cases h4 : o = 4
        · simp only [if_pos h4]
          exact verL_tot.pull fun a : Ky => a.name.data.toList
        · simp only [if_neg h4]
          exact tot_none
def nameC (a b : Ky) : Int := lessL a.name.data.toList b.name.data.toList
theorem nameC_tot : Tot nameC := lessL_tot.pull fun a : Ky => a.name.data.toList
def cmpK (o : Int) : Ky → Ky → Int := thenC (ordC o) nameC
theorem cmpK_tot (o : Int) : Tot (cmpK o) := (ordC_tot o).then nameC_tot
def dirC (dirs : Bool) (a b : Ky) : Int := if dirs = true then cmpI (if a.dir = true then 0 else 1) (if b.dir = true then 0 else 1) else 0
theorem dirC_tot (dirs : Bool) : Tot (dirC dirs) := by
  unfold dirC
  cases dirs with
  | false => exact tot_none
  | true => exact cmpI_tot.pull fun a : Ky => if a.dir = true then (0 : Int) else 1
def revC (o : Int) (rev : Bool) (a b : Ky) : Int := if rev = true then cmpK o b a else cmpK o a b
theorem revC_tot (o : Int) (rev : Bool) : Tot (revC o rev) := by
  unfold revC
  cases rev with
  | false => exact cmpK_tot o
  | true => exact (cmpK_tot o).flip
def soC (o : Int) (rev dirs : Bool) : Ky → Ky → Int := thenC (dirC dirs) (revC o rev)
theorem soC_tot (o : Int) (rev dirs : Bool) : Tot (soC o rev dirs) := (dirC_tot dirs).then (revC_tot o rev)
def noKy : Ky := ⟨⟨#[]⟩, 0, 0, false⟩
def aheadL (c : Ky → Ky → Int) (l : List Ky) (i k : Nat) : Bool := decide (c (l.getD i noKy) (l.getD k noKy) < 0) || (decide (c (l.getD i noKy) (l.getD k noKy) = 0) && decide (i < k))
theorem ahead_strict {c : Ky → Ky → Int} (h : Tot c) (l : List Ky) (n : Nat) : Strict n (aheadL c l) := by
  have key : ∀ i k, aheadL c l i k = true ↔ (c (l.getD i noKy) (l.getD k noKy) < 0 ∨ (c (l.getD i noKy) (l.getD k noKy) = 0 ∧ i < k)) := fun i k => by
    unfold aheadL
    simp
  refine ⟨fun i _ => ?_, fun i k _ _ hik => ?_, fun i j k _ _ _ h1 h2 => ?_, fun i k _ _ hne => ?_⟩
  · rw [Bool.eq_false_iff]
    intro q
    have := h.self (l.getD i noKy)
    rcases (key i i).1 q with z | ⟨_, z⟩ <;> omega
  · rw [Bool.eq_false_iff]
    intro q
    have e := h.anti (l.getD i noKy) (l.getD k noKy)
    rcases (key i k).1 hik with z | ⟨z, z2⟩ <;> rcases (key k i).1 q with y | ⟨y, y2⟩ <;> omega
  · rw [key] at h1 h2 ⊢
    have t := h.trans (l.getD i noKy) (l.getD j noKy) (l.getD k noKy)
    have m := @Tot.mid _ _ h (l.getD i noKy) (l.getD j noKy) (l.getD k noKy)
    have a1 : c (l.getD i noKy) (l.getD j noKy) ≤ 0 := by omega
    have a2 : c (l.getD j noKy) (l.getD k noKy) ≤ 0 := by omega
    have a3 := t a1 a2
    by_cases q : c (l.getD i noKy) (l.getD k noKy) = 0
    · have := m a1 a2 q
      exact .inr ⟨q, by omega⟩
    · exact .inl (by omega)
  · rw [key, key]
    have e := h.anti (l.getD i noKy) (l.getD k noKy)
    rcases Int.lt_trichotomy (c (l.getD i noKy) (l.getD k noKy)) 0 with z | z | z
    · exact .inl (.inl z)
    · rcases Nat.lt_or_ge i k with y | y
      · exact .inl (.inr ⟨z, y⟩)
      · exact .inr (.inr ⟨by omega, by omega⟩)
    · exact .inr (.inl (by omega))
def Sorted (c : Ky → Ky → Int) (l : List Ky) (p : List Nat) : Prop := SortP l.length (aheadL c l) p
theorem Sorted.one {c : Ky → Ky → Int} (h : Tot c) {l : List Ky} {p q : List Nat} (hp : Sorted c l p) (hq : Sorted c l q) : p = q := SortP.one (ahead_strict h l _) hp hq
end Go.Proofs.YtcjbnjoomgagjaaGreatDoor.O
namespace Go.Proofs.YtcjbnjoomgagjaaGreatDoor.G
open Go.Proofs.YtcjbnjoomgagjaaGreatDoor.O
abbrev En := ByteArray × Int
def enC (a b : En) : Int := lessL a.1.data.toList b.1.data.toList
theorem enC_tot : Tot enC := lessL_tot.pull fun a : En => a.1.data.toList
theorem bytes_eq {a b : ByteArray} (h : a.data.toList = b.data.toList) : a = b := ByteArray.ext (Array.toList_inj.1 h)
theorem enC_zero {a b : En} (h : enC a b = 0) : a.1 = b.1 := bytes_eq (lessL_zero h)
def insE (x : En) : List En → List En
  | [] => [x]
  | y :: r => if enC y x < 0 then y :: insE x r else x :: y :: r
def sortE (l : List En) : List En := l.foldl (fun out e => insE e out) []
theorem sortE_snoc (l : List En) (e : En) : sortE (l ++ [e]) = insE e (sortE l) := by
  unfold sortE
  rw [List.foldl_append]
  rfl
theorem insE_perm (x : En) : ∀ l, (insE x l).Perm (x :: l)
  | [] => List.Perm.refl _
  | y :: r => by
    unfold insE
    split
    · exact ((insE_perm x r).cons y).trans (List.Perm.swap x y r)
    · exact List.Perm.refl _
theorem insE_sorted (x : En) : ∀ l, l.Pairwise (fun a b => enC a b < 0) → (∀ y ∈ l, y.1 ≠ x.1) → (insE x l).Pairwise fun a b => enC a b < 0
  | [], _, _ => List.pairwise_singleton _ _
  | y :: r, h, hx => by
    obtain ⟨h1, h2⟩ := List.pairwise_cons.1 h
    have hne := hx y List.mem_cons_self
    unfold insE
    split
    · rename_i hl
      refine List.pairwise_cons.2 ⟨fun z hz => ?_, insE_sorted x r h2 (fun z hz => hx z (List.mem_cons_of_mem _ hz))⟩
      rcases List.mem_cons.1 ((insE_perm x r).mem_iff.1 hz) with rfl | hz
      · exact hl
      · exact h1 z hz
    · rename_i hl
      have hxy : enC x y < 0 := by
        have e := enC_tot.anti x y
        have n0 : enC y x ≠ 0 := fun z => hne (enC_zero z)
        omega
      refine List.pairwise_cons.2 ⟨fun z hz => ?_, h⟩
      rcases List.mem_cons.1 hz with rfl | hz
      · exact hxy
      · have hyz := h1 z hz
        have t := enC_tot.trans x y z (by omega) (by omega)
        have n0 : enC x z ≠ 0 := fun q => by
          have := enC_tot.mid (x := x) (y := y) (z := z) (by omega) (by omega) q
          omega
        omega
theorem sortE_perm (l : List En) : (sortE l).Perm l := by
  have : ∀ (l acc : List En), (l.foldl (fun out e => insE e out) acc).Perm (l ++ acc) := fun l => by
    induction l with
    | nil => intro acc; exact List.Perm.refl _
    | cons e r ih => intro acc; exact (ih (insE e acc)).trans (((insE_perm e acc).append_left r).trans List.perm_middle)
  have h := this l []
  rwa [List.append_nil] at h
def DiffE (l : List En) : Prop := l.Pairwise fun a b => a.1 ≠ b.1
theorem sortE_sorted {l : List En} (h : DiffE l) : (sortE l).Pairwise fun a b => enC a b < 0 := by
  have : ∀ (l acc : List En), l.Pairwise (fun a b => a.1 ≠ b.1) → (∀ a ∈ l, ∀ b ∈ acc, b.1 ≠ a.1) → acc.Pairwise (fun a b => enC a b < 0) → (l.foldl (fun out e => insE e out) acc).Pairwise fun a b => enC a b < 0 := fun l => by
    induction l with
    | nil => intro acc _ _ h; exact h
    | cons e r ih =>
      intro acc hp hd hs
      obtain ⟨p1, p2⟩ := List.pairwise_cons.1 hp
      refine ih (insE e acc) p2 (fun a ha b hb => ?_) (insE_sorted e acc hs (fun y hy => hd e List.mem_cons_self y hy))
      rcases List.mem_cons.1 ((insE_perm e acc).mem_iff.1 hb) with rfl | hb
      · exact p1 a ha
      · exact hd a (List.mem_cons_of_mem _ ha) b hb
  exact this l [] h (fun _ _ _ hb => by cases hb) List.Pairwise.nil
theorem sorted_same : ∀ (a b : List En), a.Perm b → a.Pairwise (fun a b => enC a b < 0) → b.Pairwise (fun a b => enC a b < 0) → a = b
  | [], b, h, _, _ => by rw [List.Perm.nil_eq h]
  | x :: a, b, h, ha, hb => by
    obtain ⟨a1, a2⟩ := List.pairwise_cons.1 ha
    cases b with
    | nil => exact absurd h.length_eq (by simp)
    | cons y b =>
      obtain ⟨b1, b2⟩ := List.pairwise_cons.1 hb
      have hxy : x = y := by
        rcases List.mem_cons.1 (h.mem_iff.1 List.mem_cons_self) with q | q
        · exact q
        · rcases List.mem_cons.1 (h.mem_iff.2 List.mem_cons_self) with p | p
          · exact p.symm
          · have h1 := b1 x q
            have h2 := a1 y p
            have e := enC_tot.anti x y
            omega
      subst hxy
      rw [sorted_same a b (List.Perm.cons_inv h) a2 b2]
def atE (l : List En) (i : Nat) : En := l.getD i (ByteArray.empty, 0)
theorem places_sorted {l : List En} {A : Nat → Nat → Bool} {p : List Nat} (hd : DiffE l) (hp : SortP l.length A p) (hA : ∀ i k, i < l.length → k < l.length → A i k = true → i ≠ k → enC (atE l i) (atE l k) ≤ 0) : p.map (atE l) = sortE l := by
  have hat : ∀ i, i < l.length → l[i]? = some (atE l i) := fun i hi => by
    unfold atE
    rw [List.getD_eq_getElem?_getD, List.getElem?_eq_getElem hi]
    rfl
  have hall : (List.range l.length).map (atE l) = l := by
    apply List.ext_getElem?
    intro i
    rw [List.getElem?_map]
    rcases Nat.lt_or_ge i l.length with q | q
    · rw [List.getElem?_range q, hat i q]
      rfl
    · rw [List.getElem?_eq_none (by rw [List.length_range]; exact q), List.getElem?_eq_none q]
      rfl
  have hperm : (p.map (atE l)).Perm l := by
    have := hp.1.map (atE l)
    rwa [hall] at this
  refine sorted_same _ _ (hperm.trans (sortE_perm l).symm) ?_ (sortE_sorted hd)
  have hnd : p.Nodup := hp.1.nodup_iff.2 List.nodup_range
  rw [List.pairwise_map]
  have key : ∀ i k, i < l.length → k < l.length → A i k = true → i ≠ k → enC (atE l i) (atE l k) < 0 := fun i k hi hk ha hik => by
    have h1 := hA i k hi hk ha hik
    have h2 : enC (atE l i) (atE l k) ≠ 0 := fun z => by
      have hz := enC_zero z
      unfold DiffE at hd
      rcases Nat.lt_or_gt_of_ne hik with q | q
      · have := List.pairwise_iff_getElem.1 hd i k hi hk q
        have e1 := Option.some.inj ((List.getElem?_eq_getElem hi).symm.trans (hat i hi))
        have e2 := Option.some.inj ((List.getElem?_eq_getElem hk).symm.trans (hat k hk))
        rw [e1, e2] at this
        exact this hz
      · have := List.pairwise_iff_getElem.1 hd k i hk hi q
        have e1 := Option.some.inj ((List.getElem?_eq_getElem hi).symm.trans (hat i hi))
        have e2 := Option.some.inj ((List.getElem?_eq_getElem hk).symm.trans (hat k hk))
        rw [e1, e2] at this
        exact this hz.symm
    omega
  have hlt : ∀ i ∈ p, i < l.length := fun i hi => hp.lt hi
  have h2 := hp.2
  clear hperm hp hall hA
  induction p with
  | nil => exact List.Pairwise.nil
  | cons i r ih =>
    obtain ⟨p1, p2⟩ := List.pairwise_cons.1 h2
    obtain ⟨n1, n2⟩ := List.nodup_cons.1 hnd
    exact List.pairwise_cons.2 ⟨fun k hk => key i k (hlt i List.mem_cons_self) (hlt k (List.mem_cons_of_mem _ hk)) (p1 k hk) (fun q => n1 (q ▸ hk)), ih n2 (fun i hi => hlt i (List.mem_cons_of_mem _ hi)) p2⟩
end Go.Proofs.YtcjbnjoomgagjaaGreatDoor.G
namespace Go.Proofs.YtcjbnjoomgagjaaGreatDoor.G
def wkV (T : Tr) (most : Int) (v : Vis) : List Vis := walkV T most (101 - v.depth).toNat v
theorem kids_congr {g g' : Vis → List Vis} {v : Vis} : ∀ (l : List (ByteArray × Int)), (∀ e b, g (kidV v e b) = g' (kidV v e b)) → kidsV g v l = kidsV g' v l
  | [], _ => rfl
  | e :: r, h => by unfold kidsV; rw [h, kids_congr r h]
theorem fuel_at {v : Vis} (h0 : 0 ≤ v.depth) (hd : v.depth ≤ 100) : ∃ f : Nat, (101 - v.depth).toNat = f + 1 ∧ (f : Int) = 100 - v.depth := ⟨(100 - v.depth).toNat, by omega, by omega⟩
theorem wk_leaf {T : Tr} {most : Int} {v : Vis} (h0 : 0 ≤ v.depth) (hd : v.depth ≤ 100) (h : ¬ (T.dir (T.over v.id) = true ∧ deepB most v.depth = true)) : wkV T most v = [atV T v] := by
  obtain ⟨f, hf, _⟩ := fuel_at h0 hd
  unfold wkV
  rw [hf, walk_leaf h]
theorem wk_err {T : Tr} {most : Int} {v : Vis} (h0 : 0 ≤ v.depth) (hd : v.depth ≤ 100) (h : T.dir (T.over v.id) = true ∧ deepB most v.depth = true) (hs : (T.shown (T.over v.id)).1 ≠ 0) : wkV T most v = [atV T v, errV (atV T v) (T.shown (T.over v.id)).1] := by
  obtain ⟨f, hf, _⟩ := fuel_at h0 hd
  unfold wkV
  rw [hf, walk_err h hs]
theorem wk_dir {T : Tr} {most : Int} {v : Vis} (h0 : 0 ≤ v.depth) (hd : v.depth ≤ 100) (h : T.dir (T.over v.id) = true ∧ deepB most v.depth = true) (hs : (T.shown (T.over v.id)).1 = 0) : wkV T most v = atV T v :: (kidsV (wkV T most) (atV T v) (T.shown (T.over v.id)).2 ++ [overV (atV T v)]) := by
  obtain ⟨f, hf, hf2⟩ := fuel_at h0 hd
  have e : kidsV (wkV T most) (atV T v) (T.shown (T.over v.id)).2 = kidsV (walkV T most f) (atV T v) (T.shown (T.over v.id)).2 := kids_congr _ fun e b => by
    unfold wkV
    have : (101 - (kidV (atV T v) e b).depth).toNat = f := by
      have e1 : (kidV (atV T v) e b).depth = v.depth + 1 := rfl
      omega
    rw [this]
  rw [e]
  unfold wkV
  rw [hf, walk_dir h hs]
theorem deep_lt {most d : Int} (h : deepB most d = true) : d < 100 := by
  unfold deepB at h
  rw [Bool.and_eq_true] at h
  exact of_decide_eq_true h.2
def deepestI (most : Int) : Int := if most < 0 then 100 else if most < 100 then most else 100
theorem deepest_deep (most d : Int) : deepB most d = decide (d < deepestI most) := by
  unfold deepB deepestI
  by_cases h1 : most < 0
  · rw [decide_eq_true h1, if_pos h1]
    simp
  · rw [decide_eq_false h1, if_neg h1, Bool.false_or]
    by_cases h2 : most < 100
    · rw [if_pos h2]
      by_cases h3 : d < most
      · rw [decide_eq_true h3, decide_eq_true (show d < 100 by omega)]; rfl
      · rw [decide_eq_false h3]; rfl
    · rw [if_neg h2]
      by_cases h3 : d < 100
      · rw [decide_eq_true h3, decide_eq_true (show d < most by omega)]; rfl
      · rw [decide_eq_false h3, Bool.and_false]
structure Fr where
  v : Vis
  lv : Value
  l : List (ByteArray × Int)
def restV (T : Tr) (most : Int) : List Fr → List Vis
  | [] => []
  | x :: r => kidsV (wkV T most) x.v x.l ++ (overV x.v :: restV T most r)
theorem rest_next {T : Tr} {most : Int} {v : Vis} {a b : Value} {e : ByteArray × Int} {l : List (ByteArray × Int)} {r : List Fr} : restV T most (⟨v, a, e :: l⟩ :: r) = wkV T most (kidV v e l.isEmpty) ++ restV T most (⟨v, b, l⟩ :: r) := by
  show (wkV T most (kidV v e l.isEmpty) ++ kidsV (wkV T most) v l) ++ _ = _
  rw [List.append_assoc]
  rfl
theorem rest_over {T : Tr} {most : Int} {v : Vis} {a : Value} {r : List Fr} : restV T most (⟨v, a, []⟩ :: r) = overV v :: restV T most r := rfl
def deepS : List Fr → Prop
  | [] => True
  | x :: r => x.v.depth = (r.length : Int) ∧ r.length < 100 ∧ deepS r
theorem deepS_len {S : List Fr} (h : deepS S) : S.length ≤ 100 := by
  cases S with
  | nil => exact Nat.zero_le _
  | cons x r => have := h.2.1; rw [List.length_cons]; omega
theorem wk_pos (T : Tr) (most : Int) (v : Vis) : ∃ r, wkV T most v = atV T v :: r := by
  unfold wkV
  cases (101 - v.depth).toNat with
  | zero => exact ⟨[], rfl⟩
  | succ f =>
    unfold walkV
    split
    · split
      · exact ⟨_, rfl⟩
      · exact ⟨_, rfl⟩
    · exact ⟨_, rfl⟩
end Go.Proofs.YtcjbnjoomgagjaaGreatDoor.G
namespace Go.Proofs.YtcjbnjoomgagjaaGreatDoor.G
open Go.Proofs.YtcjbnjoomgagjaaGreatDoor.V Go.Proofs.YtcjbnjoomgagjaaGreatDoor.P Go.Proofs.YtcjbnjoomgagjaaGreatDoor.O
structure UI (M : List Nd) : Prop where
  up : ∀ (k : Nat) (n : Nd), M[k]? = some n → ∀ e ∈ n.ents, ∀ (j : Nat) (m : Nd), e.2 = (j : Int) → M[j]? = some m → m.kind = 2 → m.up = (k : Int) ∧ m.ino ≠ 1
  cup : ∀ (j : Nat) (m : Nd) (r : Nat) (q : Nd), M[j]? = some m → m.over = (r : Int) → M[r]? = some q → q.up = m.up
  one : ∀ (k : Nat) (n : Nd), M[k]? = some n → n.ents.Pairwise fun a b => ∀ (j : Nat) (m : Nd), a.2 = (j : Int) → M[j]? = some m → m.kind = 2 → a.2 ≠ b.2
  inj : ∀ (j1 : Nat) (m1 : Nd) (j2 : Nat) (m2 : Nd), M[j1]? = some m1 → M[j2]? = some m2 → m1.over = m2.over → m1.ino ≠ 1 → m2.ino ≠ 1 → j1 = j2
theorem over_lt {M : List Nd} (R : RI M) {k : Nat} {n : Nd} (h : M[k]? = some n) : n.over < (M.length : Int) := by
  have hk := (List.getElem?_eq_some_iff.1 h).1
  rcases (R.cov k n h).2 with q | ⟨_, j, m, hj, hm, _, _⟩
  · omega
  · have := (List.getElem?_eq_some_iff.1 hm).1; omega
theorem UI.same {M : List Nd} {i : Nat} {f : Nd → Nd} (H : UI M) (hf : ∀ n, (f n).ents = n.ents ∧ (f n).kind = n.kind ∧ (f n).ino = n.ino ∧ (f n).over = n.over ∧ (f n).up = n.up) : UI (M.modify i f) := by
  have e1 : ∀ (k : Nat) (x : Nd), (if i = k then f x else x).ents = x.ents := fun k x => by split; exact (hf x).1; rfl
  have e2 : ∀ (k : Nat) (x : Nd), (if i = k then f x else x).kind = x.kind := fun k x => by split; exact (hf x).2.1; rfl
  have e3 : ∀ (k : Nat) (x : Nd), (if i = k then f x else x).ino = x.ino := fun k x => by split; exact (hf x).2.2.1; rfl
  have e4 : ∀ (k : Nat) (x : Nd), (if i = k then f x else x).over = x.over := fun k x => by split; exact (hf x).2.2.2.1; rfl
  have e5 : ∀ (k : Nat) (x : Nd), (if i = k then f x else x).up = x.up := fun k x => by split; exact (hf x).2.2.2.2; rfl
  refine ⟨fun k y hy e he j m hj hm hk => ?_, fun j m r q hm ho hq => ?_, fun k y hy => ?_, fun j1 m1 j2 m2 h1 h2 ho n1 n2 => ?_⟩
  · obtain ⟨x, hx, rfl⟩ := mod_at hy
    obtain ⟨z, hz, rfl⟩ := mod_at hm
    rw [e1] at he
    rw [e2] at hk
    rw [e5, e3]
    exact H.up k x hx e he j z hj hz hk
  · obtain ⟨x, hx, rfl⟩ := mod_at hm
    obtain ⟨z, hz, rfl⟩ := mod_at hq
    rw [e4] at ho
    rw [e5, e5]
    exact H.cup j x r z hx ho hz
  · obtain ⟨x, hx, rfl⟩ := mod_at hy
    rw [e1]
    refine (H.one k x hx).imp (fun h j m hj hm hk => ?_)
    obtain ⟨z, hz, rfl⟩ := mod_at hm
    rw [e2] at hk
    exact h j z hj hz hk
  · obtain ⟨x, hx, rfl⟩ := mod_at h1
    obtain ⟨z, hz, rfl⟩ := mod_at h2
    rw [e4, e4] at ho
    rw [e3] at n1 n2
    exact H.inj j1 x j2 z hx hz ho n1 n2
theorem UI.app {M : List Nd} {x : Nd} (H : UI M) (R : RI M) (he : x.ents = []) (ho : x.over = (M.length : Int)) : UI (M ++ [x]) := by
  have old : ∀ {k : Nat} {n y : Nd}, M[k]? = some n → ∀ e ∈ n.ents, ∀ (j : Nat), e.2 = (j : Int) → (M ++ [x])[j]? = some y → M[j]? = some y := fun hn e hee j hj hy => by
    have := (R.num _ _ hn e hee).2
    rcases app_at hy with q | ⟨q, _⟩
    · exact q
    · omega
  refine ⟨fun k y hy e hee j m hj hm hk => ?_, fun j m r q hm hor hq => ?_, fun k y hy => ?_, fun j1 m1 j2 m2 h1 h2 hoo n1 n2 => ?_⟩
  · rcases app_at hy with q | ⟨rfl, rfl⟩
    · exact H.up k y q e hee j m hj (old q e hee j hj hm) hk
    · rw [he] at hee; cases hee
  · rcases app_at hm with z | ⟨rfl, rfl⟩
    · have := over_lt R z
      rcases app_at hq with y | ⟨y, _⟩
      · exact H.cup j m r q z hor y
      · omega
    · rw [ho] at hor
      have e : r = M.length := by omega
      subst e
      rw [app_last] at hq
      rw [Option.some.inj hq]
  · rcases app_at hy with q | ⟨rfl, rfl⟩
    · refine (List.pairwise_iff_forall_sublist.2 fun {a b} hs j m hj hm hk => ?_)
      have := List.pairwise_iff_forall_sublist.1 (H.one k y q) hs
      exact this j m hj (old q a (hs.subset List.mem_cons_self) j hj hm) hk
    · rw [he]; exact List.Pairwise.nil
  · rcases app_at h1 with q1 | ⟨rfl, rfl⟩
    · rcases app_at h2 with q2 | ⟨rfl, rfl⟩
      · exact H.inj j1 m1 j2 m2 q1 q2 hoo n1 n2
      · have := over_lt R q1; omega
    · rcases app_at h2 with q2 | ⟨rfl, rfl⟩
      · have := over_lt R q2; omega
      · rfl
theorem UI.enter {M : List Nd} {i j : Nat} {s : ByteArray} (H : UI M) (hnew : ∀ m, M[j]? = some m → m.kind = 2 → m.up = (i : Int) ∧ m.ino ≠ 1 ∧ ∀ (k : Nat) (n : Nd), M[k]? = some n → ∀ e ∈ n.ents, e.2 ≠ (j : Int)) : UI (M.modify i (addEnt s (j : Int))) := by
  have e2 : ∀ (k : Nat) (x : Nd), (if i = k then addEnt s (j : Int) x else x).kind = x.kind := fun k x => by split <;> rfl
  have e3 : ∀ (k : Nat) (x : Nd), (if i = k then addEnt s (j : Int) x else x).ino = x.ino := fun k x => by split <;> rfl
  have e4 : ∀ (k : Nat) (x : Nd), (if i = k then addEnt s (j : Int) x else x).over = x.over := fun k x => by split <;> rfl
  have e5 : ∀ (k : Nat) (x : Nd), (if i = k then addEnt s (j : Int) x else x).up = x.up := fun k x => by split <;> rfl
  refine ⟨fun k y hy e hee j' m hj hm hk => ?_, fun j' m r q hm ho hq => ?_, fun k y hy => ?_, fun j1 m1 j2 m2 h1 h2 ho n1 n2 => ?_⟩
  · obtain ⟨x, hx, rfl⟩ := mod_at hy
    obtain ⟨z, hz, rfl⟩ := mod_at hm
    rw [e2] at hk
    rw [e5, e3]
    have hee' : e ∈ x.ents ∨ (i = k ∧ e = (s, (j : Int))) := by
      split at hee
      · rename_i q
        have hee : e ∈ x.ents ++ [(s, (j : Int))] := hee
        rcases List.mem_append.1 hee with w | w
        · exact .inl w
        · exact .inr ⟨q, by simpa using w⟩
      · exact .inl hee
    rcases hee' with q | ⟨rfl, rfl⟩
    · exact H.up k x hx e q j' z hj hz hk
    · have : j = j' := by
        have : (j : Int) = (j' : Int) := hj
        omega
      subst this
      obtain ⟨a, b, _⟩ := hnew z hz hk
      exact ⟨a, b⟩
  · obtain ⟨x, hx, rfl⟩ := mod_at hm
    obtain ⟨z, hz, rfl⟩ := mod_at hq
    rw [e4] at ho
    rw [e5, e5]
    exact H.cup j' x r z hx ho hz
  · obtain ⟨x, hx, rfl⟩ := mod_at hy
    have hold : x.ents.Pairwise fun a b => ∀ (j' : Nat) (m : Nd), a.2 = (j' : Int) → (M.modify i (addEnt s (j : Int)))[j']? = some m → m.kind = 2 → a.2 ≠ b.2 :=
      (H.one k x hx).imp (fun h j' m hj hm hk => by
        obtain ⟨z, hz, rfl⟩ := mod_at hm
        rw [e2] at hk
        exact h j' z hj hz hk)
    split
    · show (x.ents ++ [(s, (j : Int))]).Pairwise _
      refine List.pairwise_append.2 ⟨hold, List.pairwise_singleton _ _, fun a ha b hb j' m hj hm hk => ?_⟩
      obtain rfl : b = (s, (j : Int)) := by simpa using hb
      obtain ⟨z, hz, rfl⟩ := mod_at hm
      rw [e2] at hk
      intro q
      have : j' = j := by
        have : (j' : Int) = (j : Int) := hj.symm.trans q
        omega
      subst this
      obtain ⟨_, _, c⟩ := hnew z hz hk
      exact c k x hx a ha q
    · exact hold
  · obtain ⟨x, hx, rfl⟩ := mod_at h1
    obtain ⟨z, hz, rfl⟩ := mod_at h2
    rw [e4, e4] at ho
    rw [e3] at n1 n2
    exact H.inj j1 x j2 z hx hz ho n1 n2
theorem UI.cover {M : List Nd} {i : Nat} {x y : Nd} (H : UI M) (R : RI M) (he : x.ents = []) (ho : x.over = (M.length : Int)) (hx1 : x.ino = 1) (hup : x.up = y.up) (hy : M[i]? = some y) : UI ((M ++ [x]).modify i (setOver (M.length : Int))) := by
  have H' := H.app R he ho
  have hi := (List.getElem?_eq_some_iff.1 hy).1
  have e1 : ∀ (k : Nat) (z : Nd), (if i = k then setOver (M.length : Int) z else z).ents = z.ents := fun k z => by split <;> rfl
  have e2 : ∀ (k : Nat) (z : Nd), (if i = k then setOver (M.length : Int) z else z).kind = z.kind := fun k z => by split <;> rfl
  have e3 : ∀ (k : Nat) (z : Nd), (if i = k then setOver (M.length : Int) z else z).ino = z.ino := fun k z => by split <;> rfl
  have e5 : ∀ (k : Nat) (z : Nd), (if i = k then setOver (M.length : Int) z else z).up = z.up := fun k z => by split <;> rfl
  refine ⟨fun k n hn e hee j m hj hm hk => ?_, fun j m r q hm hor hq => ?_, fun k n hn => ?_, fun j1 m1 j2 m2 h1 h2 hoo n1 n2 => ?_⟩
  · obtain ⟨z, hz, rfl⟩ := mod_at hn
    obtain ⟨u, hu, rfl⟩ := mod_at hm
    rw [e1] at hee
    rw [e2] at hk
    rw [e5, e3]
    exact H'.up k z hz e hee j u hj hu hk
  · obtain ⟨z, hz, rfl⟩ := mod_at hm
    obtain ⟨u, hu, rfl⟩ := mod_at hq
    rw [e5, e5]
    by_cases q : i = j
    · subst q
      rw [if_pos rfl] at hor
      have hr : r = M.length := by
        have : (M.length : Int) = (r : Int) := hor
        omega
      subst hr
      rw [app_last] at hu
      obtain rfl := Option.some.inj hu
      rcases app_at hz with w | ⟨w, _⟩
      · rw [hy] at w
        rw [← Option.some.inj w]
        exact hup
      · omega
    · rw [if_neg q] at hor
      exact H'.cup j z r u hz hor hu
  · obtain ⟨z, hz, rfl⟩ := mod_at hn
    rw [e1]
    refine (H'.one k z hz).imp (fun h j m hj hm hk => ?_)
    obtain ⟨u, hu, rfl⟩ := mod_at hm
    rw [e2] at hk
    exact h j u hj hu hk
  · obtain ⟨z1, hz1, rfl⟩ := mod_at h1
    obtain ⟨z2, hz2, rfl⟩ := mod_at h2
    rw [e3] at n1 n2
    have low : ∀ {j : Nat} {z : Nd}, (M ++ [x])[j]? = some z → z.ino ≠ 1 → z.over < (M.length : Int) := fun hz hn => by
      rcases app_at hz with w | ⟨_, rfl⟩
      · exact over_lt R w
      · exact absurd hx1 hn
    by_cases q1 : i = j1
    · by_cases q2 : i = j2
      · omega
      · rw [if_pos q1, if_neg q2] at hoo
        have := low hz2 n2
        have : (M.length : Int) = z2.over := hoo
        omega
    · by_cases q2 : i = j2
      · rw [if_neg q1, if_pos q2] at hoo
        have := low hz1 n1
        have : z1.over = (M.length : Int) := hoo
        omega
      · rw [if_neg q1, if_neg q2] at hoo
        exact H'.inj j1 z1 j2 z2 hz1 hz2 hoo n1 n2
theorem cnt_some {d : Int} : ∀ {M : List Nd}, (∃ n ∈ M, n.dev = d) → 1 ≤ cntD d M
  | [], ⟨n, h, _⟩ => by cases h
  | m :: r, ⟨n, h, hd⟩ => by
    have h0 : ∀ l : List Nd, 0 ≤ cntD d l := fun l => by
      induction l with
      | nil => exact Int.le_refl _
      | cons a l ih => rw [cntD]; split <;> omega
    rw [cntD]
    rcases List.mem_cons.1 h with rfl | h
    · rw [if_pos hd]; have := h0 r; omega
    · have := cnt_some ⟨n, h, hd⟩
      split <;> omega
theorem UI.built {M : List Nd} {i : Nat} {s : ByteArray} {n d : Nd} (H : UI M) (R : RI M) (hd : M[i]? = some d) (he : n.ents = []) (hu : n.kind = 2 → n.up = (i : Int)) : UI (builtM M i s n d.dev) := by
  unfold builtM
  have hi := (List.getElem?_eq_some_iff.1 hd).1
  refine UI.same ?_ (fun n => ⟨rfl, rfl, rfl, rfl, rfl⟩)
  refine UI.enter (H.app R he rfl) (fun m hm hk => ?_)
  rw [app_last] at hm
  obtain rfl := Option.some.inj hm
  refine ⟨hu hk, ?_, fun k z hz e hee q => ?_⟩
  · have := cnt_some (d := d.dev) (M := M) ⟨d, List.mem_of_getElem? hd, rfl⟩
    show 1 + cntD d.dev M ≠ 1
    omega
  · rcases app_at hz with w | ⟨_, rfl⟩
    · have := (R.num k z w e hee).2
      omega
    · have hee : e ∈ n.ents := hee
      rw [he] at hee
      cases hee
theorem UI.do_ {M : List Nd} {c : Chg} (H : UI M) (R : RI M) (hD : DevInv M) : UI (doM M c) := by
  unfold doM
  split
  · rename_i hw
    have hat : ∀ (_ : 0 ≤ c.kind) (_ : c.kind < 4), ∃ (i : Nat) (x : Nd), c.at_ = (i : Int) ∧ M[i]? = some x ∧ atM M c.at_ = some x := fun k0 k3 => by
      obtain ⟨x, hx, h1, h2, h3⟩ := wrong_entry hw k0 k3
      obtain ⟨i, hi, hxi⟩ := atM_some hx
      exact ⟨i, x, hi, hxi, hx⟩
    unfold carryM
    split
    · obtain ⟨i, x, h1, h2, h3⟩ := hat (by omega) (by omega)
      rw [h3, h1, Int.toNat_natCast]
      exact H.built R h2 rfl (fun _ => rfl)
    · split
      · obtain ⟨i, x, h1, h2, h3⟩ := hat (by omega) (by omega)
        rw [h3, h1, Int.toNat_natCast]
        exact H.built R h2 rfl (fun q => by cases q)
      · split
        · rcases wrong_cases hw with ⟨_, _, q, _⟩ | ⟨_, x', y, _, hy, hyk⟩ | ⟨q, _⟩ | ⟨q, _⟩
          · omega
          · obtain ⟨j, hj, hyj⟩ := atM_some hy
            refine UI.same ?_ (fun n => ⟨rfl, rfl, rfl, rfl, rfl⟩)
            rw [hj]
            exact H.enter (fun m hm hk => by rw [hyj] at hm; obtain rfl := Option.some.inj hm; exact absurd hk hyk)
          · omega
          · omega
        · split
          · obtain ⟨i, x, h1, h2, h3⟩ := hat (by omega) (by omega)
            rw [h3, h1, Int.toNat_natCast]
            exact H.built R h2 rfl (fun q => by cases q)
          · split
            · rename_i k7
              obtain ⟨y, hy, h1, h2, h3⟩ := wrong_mount hw k7
              obtain ⟨j, hj, hyj⟩ := atM_some hy
              unfold coveredM
              rw [hy, hj, Int.toNat_natCast]
              refine H.cover (y := y) R rfl rfl ?_ rfl hyj
              show 1 + cntD _ M = 1
              rw [cnt_new hD (by omega)]
              rfl
            · refine H.same (fun n => ?_)
              unfold setNd
              repeat' split
              all_goals exact ⟨rfl, rfl, rfl, rfl, rfl⟩
  · exact H
theorem ui_new : UI newM := by
  have h0 : ∀ (k : Nat) (n : Nd), newM[k]? = some n → k = 0 ∧ n = addedNd (dirNd 493 0) 1 [] := fun k n h => by
    have hk : k = 0 := by
      have := (List.getElem?_eq_some_iff.1 h).1
      simp [newM] at this
      exact this
    subst hk
    exact ⟨rfl, by simpa [newM] using h.symm⟩
  refine ⟨fun k n h e he => ?_, fun j m r q hm ho hq => ?_, fun k n h => ?_, fun j1 m1 j2 m2 h1 h2 _ _ _ => ?_⟩
  · obtain ⟨rfl, rfl⟩ := h0 k n h; cases he
  · obtain ⟨rfl, rfl⟩ := h0 j m hm; obtain ⟨rfl, rfl⟩ := h0 r q hq; rfl
  · obtain ⟨rfl, rfl⟩ := h0 k n h; exact List.Pairwise.nil
  · exact (h0 j1 m1 h1).1.trans (h0 j2 m2 h2).1.symm
end Go.Proofs.YtcjbnjoomgagjaaGreatDoor.G
namespace Go.Proofs.YtcjbnjoomgagjaaGreatDoor.G
open Go.Proofs.YtcjbnjoomgagjaaGreatDoor.V Go.Proofs.YtcjbnjoomgagjaaGreatDoor.P Go.Proofs.YtcjbnjoomgagjaaGreatDoor.O
def shownE (M : List Nd) (u g i : Int) : Int := if listE M i = 2 ∨ listE M i = 3 then listE M i else if mayB (bitsP (nvAt M i) u g) 5 = true then listE M i else 5
def shownB (all : Bool) (e : En) : Bool := all || !(e.1.data.toList.head? == some 46)
def shownL (M : List Nd) (all : Bool) (i : Int) : List En := sortE ((listL M i).filter (shownB all))
def treeM (M : List Nd) (u g : Int) (all : Bool) : Tr := ⟨overI M, fun i => decide (kindM M i = 2), fun i => (shownE M u g i, shownL M all i)⟩
theorem kind_at {M : List Nd} {i : Int} (h : kindM M i = 2) : ∃ (k : Nat) (n : Nd), i = (k : Int) ∧ M[k]? = some n ∧ n.kind = 2 ∧ atM M i = some n := by
  unfold kindM nvAt at h
  cases ha : atM M i with
  | none => rw [ha] at h; cases h
  | some n =>
    rw [ha] at h
    obtain ⟨k, hk, hn⟩ := atM_some ha
    exact ⟨k, n, hk, hn, h, rfl⟩
theorem at_num {M : List Nd} {k : Nat} {n : Nd} (h : M[k]? = some n) : atM M (k : Int) = some n := by
  unfold atM
  rw [if_pos ⟨by omega, by have := (List.getElem?_eq_some_iff.1 h).1; omega⟩, Int.toNat_natCast]
  exact h
theorem list_ents {M : List Nd} {i : Int} {n : Nd} (h : atM M i = some n) {e : En} (he : e ∈ listL M i) : e ∈ n.ents := by
  unfold listL at he
  rw [h] at he
  dsimp only at he
  split at he
  · split at he
    · cases he
    · exact he
  · cases he
theorem shown_mem {M : List Nd} {all : Bool} {i : Int} {e : En} (h : e ∈ shownL M all i) : e ∈ listL M i := by
  unfold shownL at h
  exact (List.mem_filter.1 ((sortE_perm _).mem_iff.1 h)).1
theorem child_at {M : List Nd} (R : RI M) (U : UI M) {k : Nat} {n : Nd} (hn : M[k]? = some n) {e : En} (he : e ∈ n.ents) (hc : kindM M (overI M e.2) = 2) :
    ∃ (j : Nat) (m : Nd) (r : Nat) (q : Nd), e.2 = (j : Int) ∧ M[j]? = some m ∧ m.kind = 2 ∧ m.up = (k : Int) ∧ m.ino ≠ 1 ∧ overI M e.2 = (r : Int) ∧ m.over = (r : Int) ∧ M[r]? = some q ∧ q.up = (k : Int) ∧ k < r := by
  obtain ⟨h0, h1⟩ := R.num k n hn e he
  obtain ⟨j, hj⟩ : ∃ j : Nat, e.2 = (j : Int) := ⟨e.2.toNat, by omega⟩
  obtain ⟨m, hm⟩ : ∃ m, M[j]? = some m := ⟨_, List.getElem?_eq_getElem (by omega)⟩
  have ho : overI M e.2 = m.over := by
    unfold overI
    rw [hj, at_num hm]
  obtain ⟨r, q, hr, hq, hqk, _⟩ := kind_at hc
  have hmk : m.kind = 2 := by
    rcases (R.cov j m hm).2 with w | ⟨w, _⟩
    · have : r = j := by omega
      subst this
      rw [hm] at hq
      rw [Option.some.inj hq]
      exact hqk
    · exact w
  obtain ⟨u1, u2⟩ := U.up k n hn e he j m hj hm hmk
  have hlt := R.ord k n hn e he j m hj hm hmk
  refine ⟨j, m, r, q, hj, hm, hmk, u1, u2, hr, by omega, hq, by rw [U.cup j m r q hm (by omega) hq]; exact u1, ?_⟩
  rcases (R.cov j m hm).2 with w | ⟨_, j', m', hj', _, _, hl⟩
  · omega
  · omega
theorem treeB {M : List Nd} (R : RI M) (U : UI M) (u g : Int) (all : Bool) {E : Nat} (hE : ∀ n ∈ M, n.ents.length ≤ E) : TreeB (treeM M u g all) (upI M) M.length E where
  dir := fun i h => by
    obtain ⟨k, n, hk, hn, _, _⟩ := kind_at (of_decide_eq_true h)
    have := (List.getElem?_eq_some_iff.1 hn).1
    omega
  up := fun d hd e he hc => by
    obtain ⟨k, n, hk, hn, _, ha⟩ := kind_at (of_decide_eq_true hd)
    obtain ⟨j, m, r, q, hj, hm, _, _, _, hr, _, hq, hu, hl⟩ := child_at R U hn (list_ents ha (shown_mem he)) (of_decide_eq_true hc)
    refine ⟨?_, ?_⟩
    · show upI M (overI M e.2) = d
      rw [hr, hk]
      unfold upI
      rw [at_num hq]
      exact hu
    · show d < overI M e.2
      rw [hr, hk]
      omega
  one := fun d hd => by
    obtain ⟨k, n, hk, hn, _, ha⟩ := kind_at (of_decide_eq_true hd)
    have key : (shownL M all d).Pairwise fun a b => ¬ (kindM M (overI M a.2) = 2 ∧ overI M a.2 = overI M b.2) := by
      unfold shownL
      refine (List.Perm.pairwise_iff (fun {a b} h q => h ⟨by rw [← q.2]; exact q.1, q.2.symm⟩) (sortE_perm _)).2 ?_
      refine List.Pairwise.filter _ ?_
      have hsub : (listL M d).Sublist n.ents := by
        unfold listL
        rw [ha]
        dsimp only
        repeat' split
        all_goals first | exact List.nil_sublist _ | exact List.Sublist.refl _
      refine List.Pairwise.sublist hsub ?_
      refine List.pairwise_iff_forall_sublist.2 fun {a b} hs h => ?_
      have hma := hs.subset (List.mem_cons_self)
      have hmb := hs.subset (List.mem_cons_of_mem a List.mem_cons_self)
      obtain ⟨j1, m1, r1, q1, a1, a2, a3, _, a5, a6, a7, _⟩ := child_at R U hn hma h.1
      obtain ⟨j2, m2, r2, q2, b1, b2, b3, _, b5, b6, b7, _⟩ := child_at R U hn hmb (by rw [← h.2]; exact h.1)
      have hj := U.inj j1 m1 j2 m2 a2 b2 (by rw [a7, b7, ← a6, ← b6]; exact h.2) a5 b5
      have hone := List.pairwise_iff_forall_sublist.1 (U.one k n hn) hs j1 m1 a1 a2 a3
      exact hone (by rw [a1, b1, hj])
    exact key.imp fun h hc q => h ⟨of_decide_eq_true hc, q⟩
  few := fun d hd => by
    obtain ⟨k, n, hk, hn, _, ha⟩ := kind_at (of_decide_eq_true hd)
    show (shownL M all d).length ≤ E
    unfold shownL
    rw [(sortE_perm _).length_eq]
    have h1 := List.length_filter_le (shownB all) (listL M d)
    have h2 : (listL M d).length ≤ n.ents.length := by
      unfold listL
      rw [ha]
      dsimp only
      repeat' split
      all_goals first | exact Nat.zero_le _ | exact Nat.le_refl _
    have := hE n (List.mem_of_getElem? hn)
    omega
end Go.Proofs.YtcjbnjoomgagjaaGreatDoor.G
namespace Go.Proofs.YtcjbnjoomgagjaaGreatDoor.O
def mergeL (A : Nat → Nat → Bool) : List Nat → List Nat → List Nat
  | [], ys => ys
  | x :: xs, [] => x :: xs
  | x :: xs, y :: ys => if A x y = true then x :: mergeL A xs (y :: ys) else y :: mergeL A (x :: xs) ys
termination_by xs ys => xs.length + ys.length
theorem merge_nil (A : Nat → Nat → Bool) (xs : List Nat) : mergeL A xs [] = xs := by
  cases xs with
  | nil => rw [mergeL]
  | cons x xs => rw [mergeL]
theorem merge_left {A : Nat → Nat → Bool} {x y : Nat} {xs ys : List Nat} (h : A x y = true) : mergeL A (x :: xs) (y :: ys) = x :: mergeL A xs (y :: ys) := by rw [mergeL, if_pos h]
theorem merge_right {A : Nat → Nat → Bool} {x y : Nat} {xs ys : List Nat} (h : A x y = false) : mergeL A (x :: xs) (y :: ys) = y :: mergeL A (x :: xs) ys := by rw [mergeL, if_neg (by rw [h]; decide)]
theorem merge_perm (A : Nat → Nat → Bool) : ∀ xs ys : List Nat, (mergeL A xs ys).Perm (xs ++ ys)
  | [], ys => by rw [mergeL]; exact List.Perm.refl _
  | x :: xs, [] => by rw [mergeL, List.append_nil]
  | x :: xs, y :: ys => by
    rw [mergeL]
    split
    · exact (merge_perm A xs (y :: ys)).cons x
    · refine ((merge_perm A (x :: xs) ys).cons y).trans ?_
      exact (List.perm_middle (l₁ := x :: xs) (l₂ := ys) (a := y)).symm
termination_by xs ys => xs.length + ys.length
theorem merge_sorted {n : Nat} {A : Nat → Nat → Bool} (hA : Strict n A) : ∀ xs ys : List Nat, (∀ i ∈ xs, i < n) → (∀ i ∈ ys, i < n) → (∀ i ∈ xs, i ∉ ys) → (xs.Pairwise fun i k => A i k = true) → (ys.Pairwise fun i k => A i k = true) → (mergeL A xs ys).Pairwise fun i k => A i k = true
  | [], ys, _, _, _, _, h2 => by rw [mergeL]; exact h2
  | x :: xs, [], _, _, _, h1, _ => by rw [mergeL]; exact h1
  | x :: xs, y :: ys, hx, hy, hd, h1, h2 => by
    obtain ⟨p1, p2⟩ := List.pairwise_cons.1 h1
    obtain ⟨q1, q2⟩ := List.pairwise_cons.1 h2
    have hxn := hx x List.mem_cons_self
    have hyn := hy y List.mem_cons_self
    have hxs : ∀ i ∈ xs, i < n := fun i hi => hx i (List.mem_cons_of_mem _ hi)
    have hys : ∀ i ∈ ys, i < n := fun i hi => hy i (List.mem_cons_of_mem _ hi)
    rw [mergeL]
    split
    · rename_i h
      refine List.pairwise_cons.2 ⟨fun k hk => ?_, merge_sorted hA xs (y :: ys) hxs hy (fun i hi => hd i (List.mem_cons_of_mem _ hi)) p2 h2⟩
      rcases List.mem_append.1 ((merge_perm A xs (y :: ys)).mem_iff.1 hk) with z | z
      · exact p1 k z
      · rcases List.mem_cons.1 z with z | z
        · rw [z]; exact h
        · exact hA.tri x y k hxn hyn (hys k z) h (q1 k z)
    · rename_i h
      have hyx : A y x = true := by
        have hne : x ≠ y := fun z => hd x List.mem_cons_self (by rw [z]; exact List.mem_cons_self)
        rcases hA.tot x y hxn hyn hne with z | z
        · exact absurd z h
        · exact z
      refine List.pairwise_cons.2 ⟨fun k hk => ?_, merge_sorted hA (x :: xs) ys hx hys (fun i hi hm => hd i hi (List.mem_cons_of_mem _ hm)) h1 q2⟩
      rcases List.mem_append.1 ((merge_perm A (x :: xs) ys).mem_iff.1 hk) with z | z
      · rcases List.mem_cons.1 z with z | z
        · rw [z]; exact hyx
        · exact hA.tri y x k hyn hxn (hxs k z) hyx (p1 k z)
      · exact q1 k z
termination_by xs ys => xs.length + ys.length
def SortOf (A : Nat → Nat → Bool) (xs r : List Nat) : Prop := r.Perm xs ∧ r.Pairwise fun i k => A i k = true
theorem SortOf.one {A : Nat → Nat → Bool} {xs : List Nat} (h : xs.length ≤ 1) : SortOf A xs xs := by
  refine ⟨List.Perm.refl _, ?_⟩
  match xs, h with
  | [], _ => exact List.Pairwise.nil
  | [x], _ => exact List.pairwise_singleton _ _
theorem SortOf.halves {n : Nat} {A : Nat → Nat → Bool} (hA : Strict n A) {xs r s : List Nat} (k : Nat) (hn : ∀ i ∈ xs, i < n) (hd : xs.Nodup) (h1 : SortOf A (xs.take k) r) (h2 : SortOf A (xs.drop k) s) : SortOf A xs (mergeL A r s) := by
  have hsp : xs.take k ++ xs.drop k = xs := List.take_append_drop k xs
  have hdd : ∀ i ∈ xs.take k, i ∉ xs.drop k := by
    rw [← hsp] at hd
    intro i hi hj
    exact (List.nodup_append.1 hd).2.2 i hi i hj rfl
  refine ⟨(merge_perm A r s).trans (((h1.1.append h2.1)).trans (by rw [hsp])), merge_sorted hA r s (fun i hi => hn i (List.mem_of_mem_take (h1.1.mem_iff.1 hi))) (fun i hi => hn i (List.mem_of_mem_drop (h2.1.mem_iff.1 hi))) (fun i hi hj => hdd i (h1.1.mem_iff.1 hi) (h2.1.mem_iff.1 hj)) h1.2 h2.2⟩
theorem SortOf.range {n : Nat} {A : Nat → Nat → Bool} {r : List Nat} (h : SortOf A (List.range n) r) : SortP n A r := h
end Go.Proofs.YtcjbnjoomgagjaaGreatDoor.O
