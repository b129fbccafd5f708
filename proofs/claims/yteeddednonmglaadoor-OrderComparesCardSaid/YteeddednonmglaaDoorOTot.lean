/-
  Comparisons that are total orders: put one behind the other, of lists, of numbers; and lists of places sorted by one. Conditions: none.
-/
namespace Go.Proofs.YteeddednonmglaaDoor

/-- A comparison: -1, 0, 1; turned about it is turned about; what is ahead of what is ahead is ahead. -/
structure Tot {α : Type} (c : α → α → Int) : Prop where
  unit : ∀ a b, c a b = -1 ∨ c a b = 0 ∨ c a b = 1
  anti : ∀ a b, c b a = -c a b
  trans : ∀ x y z, c x y ≤ 0 → c y z ≤ 0 → c x z ≤ 0
theorem Tot.self {α : Type} {c : α → α → Int} (h : Tot c) (a : α) : c a a = 0 := by
  have := h.anti a a
  omega
theorem Tot.pull {α β : Type} {c : α → α → Int} (h : Tot c) (f : β → α) : Tot fun a b => c (f a) (f b) :=
  ⟨fun _ _ => h.unit _ _, fun _ _ => h.anti _ _, fun _ _ _ => h.trans _ _ _⟩
/-- The second tells where the first doesn't. -/
def thenC {α : Type} (c d : α → α → Int) (a b : α) : Int := if c a b = 0 then d a b else c a b
theorem Tot.mid {α : Type} {c : α → α → Int} (h : Tot c) {x y z : α} (h1 : c x y ≤ 0) (h2 : c y z ≤ 0) (h3 : c x z = 0) : c x y = 0 ∧ c y z = 0 := by
  have e := h.anti x z
  have a1 := h.trans y z x h2 (by omega)
  have a2 := h.trans z x y (by omega) h1
  have b1 := h.anti x y
  have b2 := h.anti y z
  omega
theorem Tot.then {α : Type} {c d : α → α → Int} (h : Tot c) (k : Tot d) : Tot (thenC c d) := by
  refine ⟨fun a b => ?_, fun a b => ?_, fun x y z h1 h2 => ?_⟩
  · unfold thenC
    split
    · exact k.unit a b
    · exact h.unit a b
  · unfold thenC
    have := h.anti a b
    by_cases q : c a b = 0
    · rw [if_pos q, if_pos (by omega)]
      exact k.anti a b
    · rw [if_neg q, if_neg (by omega)]
      exact this
  · have p1 : c x y ≤ 0 := by
      unfold thenC at h1
      split at h1 <;> omega
    have p2 : c y z ≤ 0 := by
      unfold thenC at h2
      split at h2 <;> omega
    have p3 := h.trans x y z p1 p2
    unfold thenC
    split
    · rename_i q
      obtain ⟨q1, q2⟩ := h.mid p1 p2 q
      unfold thenC at h1 h2
      rw [if_pos q1] at h1
      rw [if_pos q2] at h2
      exact k.trans x y z h1 h2
    · exact p3
/-- Lists: the first that differs tells; what is over is ahead. -/
def lexC {α : Type} (c : α → α → Int) : List α → List α → Int
  | [], [] => 0
  | [], _ :: _ => -1
  | _ :: _, [] => 1
  | a :: x, b :: y => if c a b = 0 then lexC c x y else c a b
theorem Tot.lex {α : Type} {c : α → α → Int} (h : Tot c) : Tot (lexC c) := by
  refine ⟨fun a => ?_, fun a => ?_, fun x => ?_⟩
  · induction a with
    | nil => intro b; cases b; exact .inr (.inl rfl); exact .inl rfl
    | cons a x ih =>
      intro b
      cases b with
      | nil => exact .inr (.inr rfl)
      | cons b y =>
        rw [lexC]
        split
        · exact ih y
        · exact h.unit a b
  · induction a with
    | nil => intro b; cases b; rfl; rfl
    | cons a x ih =>
      intro b
      cases b with
      | nil => rfl
      | cons b y =>
        have := h.anti a b
        rw [lexC, lexC]
        by_cases q : c a b = 0
        · rw [if_pos q, if_pos (by omega)]
          exact ih y
        · rw [if_neg q, if_neg (by omega)]
          exact this
  · induction x with
    | nil =>
      intro y z _ _
      cases z with
      | nil => exact Int.le_refl _
      | cons _ _ => show (-1 : Int) ≤ 0; decide
    | cons a x ih =>
      intro y z h1 h2
      cases y with
      | nil => exact absurd (show (1 : Int) ≤ 0 from h1) (by decide)
      | cons b y =>
        cases z with
        | nil => exact absurd (show (1 : Int) ≤ 0 from h2) (by decide)
        | cons d z =>
          rw [lexC] at h1 h2 ⊢
          have p1 : c a b ≤ 0 := by split at h1 <;> omega
          have p2 : c b d ≤ 0 := by split at h2 <;> omega
          have p3 := h.trans a b d p1 p2
          split
          · rename_i q
            obtain ⟨q1, q2⟩ := h.mid p1 p2 q
            rw [if_pos q1] at h1
            rw [if_pos q2] at h2
            exact ih y z h1 h2
          · exact p3
theorem lex_zero {α : Type} {c : α → α → Int} (hc : ∀ a b, c a b = 0 → a = b) : ∀ a b, lexC c a b = 0 → a = b
  | [], [], _ => rfl
  | [], _ :: _, h => absurd (show (-1 : Int) = 0 from h) (by decide)
  | _ :: _, [], h => absurd (show (1 : Int) = 0 from h) (by decide)
  | a :: x, b :: y, h => by
    rw [lexC] at h
    split at h
    · rename_i q
      rw [hc a b q, lex_zero hc x y h]
    · rename_i q
      exact absurd h q
/-- Numbers: the lesser first. -/
def cmpI (a b : Int) : Int := if a < b then -1 else if b < a then 1 else 0
theorem cmpI_tot : Tot cmpI := by
  refine ⟨fun a b => ?_, fun a b => ?_, fun x y z h1 h2 => ?_⟩
  · unfold cmpI; split; exact .inl rfl; split; exact .inr (.inr rfl); exact .inr (.inl rfl)
  · unfold cmpI
    by_cases h : a < b
    · rw [if_pos h, if_neg (by omega), if_pos h]; rfl
    · rw [if_neg h]
      by_cases k : b < a
      · rw [if_pos k, if_pos k]
        rw [if_neg h]
      · rw [if_neg k, if_neg k, if_neg h]; rfl
  · have e1 : x ≤ y := by
      unfold cmpI at h1
      split at h1
      · omega
      · split at h1
        · omega
        · omega
    have e2 : y ≤ z := by
      unfold cmpI at h2
      split at h2
      · omega
      · split at h2
        · omega
        · omega
    unfold cmpI
    split
    · decide
    · rw [if_neg (by omega)]
      exact Int.le_refl _
theorem cmpI_zero {a b : Int} (h : cmpI a b = 0) : a = b := by
  unfold cmpI at h
  split at h
  · cases h
  · split at h
    · cases h
    · omega

/-! Places, sorted. -/
/-- A strict order of the places below n, of any two of which one is ahead. -/
structure Strict (n : Nat) (A : Nat → Nat → Bool) : Prop where
  irr : ∀ i, i < n → A i i = false
  asy : ∀ i k, i < n → k < n → A i k = true → A k i = false
  tri : ∀ i j k, i < n → j < n → k < n → A i j = true → A j k = true → A i k = true
  tot : ∀ i k, i < n → k < n → i ≠ k → A i k = true ∨ A k i = true
/-- The places below n, each once, each ahead of all that stand behind it. -/
def SortP (n : Nat) (A : Nat → Nat → Bool) (p : List Nat) : Prop := p.Perm (List.range n) ∧ p.Pairwise fun i k => A i k = true
theorem SortP.lt {n : Nat} {A : Nat → Nat → Bool} {p : List Nat} (h : SortP n A p) {i : Nat} (hi : i ∈ p) : i < n := List.mem_range.1 (h.1.mem_iff.1 hi)
theorem SortP.length {n : Nat} {A : Nat → Nat → Bool} {p : List Nat} (h : SortP n A p) : p.length = n := by rw [h.1.length_eq, List.length_range]
theorem perm_one {n : Nat} {A : Nat → Nat → Bool} (hA : Strict n A) : ∀ {p q : List Nat}, (∀ i ∈ p, i < n) → p.Perm q → (p.Pairwise fun i k => A i k = true) → (q.Pairwise fun i k => A i k = true) → p = q
  | [], q, _, hp, _, _ => (List.nil_perm.1 hp).symm
  | a :: x, [], _, hp, _, _ => by have := hp.length_eq; simp at this
  | a :: x, b :: y, hn, hp, h1, h2 => by
    obtain ⟨p1, p2⟩ := List.pairwise_cons.1 h1
    obtain ⟨q1, q2⟩ := List.pairwise_cons.1 h2
    have ha : a < n := hn a List.mem_cons_self
    have hb : b < n := hn b (hp.mem_iff.2 List.mem_cons_self)
    have e : a = b := Classical.byContradiction fun ne => by
      have m1 : b ∈ x := by
        rcases List.mem_cons.1 (hp.mem_iff.2 List.mem_cons_self) with z | z
        · exact absurd z.symm ne
        · exact z
      have m2 : a ∈ y := by
        rcases List.mem_cons.1 (hp.mem_iff.1 List.mem_cons_self) with z | z
        · exact absurd z ne
        · exact z
      have t1 := p1 b m1
      have t2 := q1 a m2
      rw [hA.asy a b ha hb t1] at t2
      cases t2
    subst e
    rw [perm_one hA (fun i hi => hn i (List.mem_cons_of_mem _ hi)) ((List.perm_cons a).1 hp) p2 q2]
theorem SortP.one {n : Nat} {A : Nat → Nat → Bool} (hA : Strict n A) {p q : List Nat} (h : SortP n A p) (k : SortP n A q) : p = q :=
  perm_one hA (fun _ hi => h.lt hi) (h.1.trans k.1.symm) h.2 k.2
/-- How many are ahead of a place. -/
def rank (n : Nat) (A : Nat → Nat → Bool) (i : Nat) : Nat := (List.range n).countP fun k => A k i
theorem SortP.rank {n : Nat} {A : Nat → Nat → Bool} (hA : Strict n A) {p : List Nat} (h : SortP n A p) {r i : Nat} (hr : p[r]? = some i) : rank n A i = r := by
  have hlt := (List.getElem?_eq_some_iff.1 hr).1
  have hi : i < n := h.lt (List.mem_of_getElem? hr)
  unfold Go.Proofs.YteeddednonmglaaDoor.rank
  rw [← h.1.countP_eq]
  have hsplit : p = p.take r ++ i :: p.drop (r + 1) := by
    have : p[r] = i := (List.getElem?_eq_some_iff.1 hr).2
    rw [← this, List.getElem_cons_drop, List.take_append_drop]
  have hpw := h.2
  have hmem : ∀ k ∈ p, k < n := fun k hk => h.lt hk
  rw [hsplit] at hpw hmem
  rw [hsplit, List.countP_append, List.countP_cons]
  obtain ⟨_, p2, p3⟩ := List.pairwise_append.1 hpw
  obtain ⟨p4, _⟩ := List.pairwise_cons.1 p2
  have c1 : (p.take r).countP (fun k => A k i) = r := by
    rw [List.countP_eq_length.2 (fun k hk => p3 k hk i List.mem_cons_self), List.length_take]
    omega
  have c2 : (p.drop (r + 1)).countP (fun k => A k i) = 0 := by
    rw [List.countP_eq_zero]
    intro k hk
    rw [hA.asy i k hi (hmem k (List.mem_append_right _ (List.mem_cons_of_mem _ hk))) (p4 k hk)]
    decide
  rw [c1, c2, hA.irr i hi]
  simp
end Go.Proofs.YteeddednonmglaaDoor
