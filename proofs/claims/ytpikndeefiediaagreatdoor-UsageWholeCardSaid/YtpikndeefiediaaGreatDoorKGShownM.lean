/-
  Comparisons that are total orders: put one behind the other, of lists, of numbers; and lists of places sorted by one. Conditions: none.
  The orders of keys in the model: each is total; the places of a list of keys, sorted. Conditions: none.
  Entries put in order by their names, one after another, and by sorted places: the same list. Conditions: the names differ.
-/

set_option linter.unusedVariables false
namespace Go.Proofs.YtpikndeefiediaaGreatDoor.O

/-- A comparison: -1, 0, 1; turned about it is turned about; what is ahead of what is ahead is ahead. -/
structure Tot {α : Type} (c : α → α → Int) : Prop where
  unit : ∀ a b, c a b = -1 ∨ c a b = 0 ∨ c a b = 1
  anti : ∀ a b, c b a = -c a b
  trans : ∀ x y z, c x y ≤ 0 → c y z ≤ 0 → c x z ≤ 0
theorem Tot.self {α : Type} {c : α → α → Int} (h : Tot c) (a : α) : c a a = 0 := by
  have := h.anti a a
  omega
theorem Tot.pull {α β : Type} {c : α → α → Int} (h : Tot c) (f : β → α) : Tot fun a b => c (f a) (f b) :=
  ⟨fun _ _ => h.unit _ _, fun _ _ => h.anti _ _, fun _ _ _ => h.trans _ _ _⟩
/-- The second tells where the first doesn't. -/
def thenC {α : Type} (c d : α → α → Int) (a b : α) : Int := if c a b = 0 then d a b else c a b
theorem Tot.mid {α : Type} {c : α → α → Int} (h : Tot c) {x y z : α} (h1 : c x y ≤ 0) (h2 : c y z ≤ 0) (h3 : c x z = 0) : c x y = 0 ∧ c y z = 0 := by
  have e := h.anti x z
  have a1 := h.trans y z x h2 (by omega)
  have a2 := h.trans z x y (by omega) h1
  have b1 := h.anti x y
  have b2 := h.anti y z
  omega
theorem Tot.then {α : Type} {c d : α → α → Int} (h : Tot c) (k : Tot d) : Tot (thenC c d) := by
  refine ⟨fun a b => ?_, fun a b => ?_, fun x y z h1 h2 => ?_⟩
  · unfold thenC
    split
    · exact k.unit a b
    · exact h.unit a b
  · unfold thenC
    have := h.anti a b
    by_cases q : c a b = 0
    · rw [if_pos q, if_pos (by omega)]
      exact k.anti a b
    · rw [if_neg q, if_neg (by omega)]
      exact this
  · have p1 : c x y ≤ 0 := by
      unfold thenC at h1
      split at h1 <;> omega
    have p2 : c y z ≤ 0 := by
      unfold thenC at h2
      split at h2 <;> omega
    have p3 := h.trans x y z p1 p2
    unfold thenC
    split
    · rename_i q
      obtain ⟨q1, q2⟩ := h.mid p1 p2 q
      unfold thenC at h1 h2
      rw [if_pos q1] at h1
      rw [if_pos q2] at h2
      exact k.trans x y z h1 h2
    · exact p3
/-- Lists: the first that differs tells; what is over is ahead. -/
def lexC {α : Type} (c : α → α → Int) : List α → List α → Int
  | [], [] => 0
  | [], _ :: _ => -1
  | _ :: _, [] => 1
  | a :: x, b :: y => if c a b = 0 then lexC c x y else c a b
theorem Tot.lex {α : Type} {c : α → α → Int} (h : Tot c) : Tot (lexC c) := by
  refine ⟨fun a => ?_, fun a => ?_, fun x => ?_⟩
  · induction a with
    | nil => intro b; cases b; exact .inr (.inl rfl); exact .inl rfl
    | cons a x ih =>
      intro b
      cases b with
      | nil => exact .inr (.inr rfl)
      | cons b y =>
        rw [lexC]
        split
        · exact ih y
        · exact h.unit a b
  · induction a with
    | nil => intro b; cases b; rfl; rfl
    | cons a x ih =>
      intro b
      cases b with
      | nil => rfl
      | cons b y =>
        have := h.anti a b
        rw [lexC, lexC]
        by_cases q : c a b = 0
        · rw [if_pos q, if_pos (by omega)]
          exact ih y
        · rw [if_neg q, if_neg (by omega)]
          exact this
  · induction x with
    | nil =>
      intro y z _ _
      cases z with
      | nil => exact Int.le_refl _
      | cons _ _ => show (-1 : Int) ≤ 0; decide
    | cons a x ih =>
      intro y z h1 h2
      cases y with
      | nil => exact absurd (show (1 : Int) ≤ 0 from h1) (by decide)
      | cons b y =>
        cases z with
        | nil => exact absurd (show (1 : Int) ≤ 0 from h2) (by decide)
        | cons d z =>
          rw [lexC] at h1 h2 ⊢
          have p1 : c a b ≤ 0 := by split at h1 <;> omega
          have p2 : c b d ≤ 0 := by split at h2 <;> omega
          have p3 := h.trans a b d p1 p2
          split
          · rename_i q
            obtain ⟨q1, q2⟩ := h.mid p1 p2 q
            rw [if_pos q1] at h1
            rw [if_pos q2] at h2
            exact ih y z h1 h2
          · exact p3
theorem lex_zero {α : Type} {c : α → α → Int} (hc : ∀ a b, c a b = 0 → a = b) : ∀ a b, lexC c a b = 0 → a = b
  | [], [], _ => rfl
  | [], _ :: _, h => absurd (show (-1 : Int) = 0 from h) (by decide)
  | _ :: _, [], h => absurd (show (1 : Int) = 0 from h) (by decide)
  | a :: x, b :: y, h => by
    rw [lexC] at h
    split at h
    · rename_i q
      rw [hc a b q, lex_zero hc x y h]
    · rename_i q
      exact absurd h q
/-- Numbers: the lesser first. -/
def cmpI (a b : Int) : Int := if a < b then -1 else if b < a then 1 else 0
theorem cmpI_tot : Tot cmpI := by
  refine ⟨fun a b => ?_, fun a b => ?_, fun x y z h1 h2 => ?_⟩
  · unfold cmpI; split; exact .inl rfl; split; exact .inr (.inr rfl); exact .inr (.inl rfl)
  · unfold cmpI
    by_cases h : a < b
    · rw [if_pos h, if_neg (by omega), if_pos h]; rfl
    · rw [if_neg h]
      by_cases k : b < a
      · rw [if_pos k, if_pos k]
        rw [if_neg h]
      · rw [if_neg k, if_neg k, if_neg h]; rfl
  · have e1 : x ≤ y := by
      unfold cmpI at h1
      split at h1
      · omega
      · split at h1
        · omega
        · omega
    have e2 : y ≤ z := by
      unfold cmpI at h2
      split at h2
      · omega
      · split at h2
        · omega
        · omega
    unfold cmpI
    split
    · decide
    · rw [if_neg (by omega)]
      exact Int.le_refl _
theorem cmpI_zero {a b : Int} (h : cmpI a b = 0) : a = b := by
  unfold cmpI at h
  split at h
  · cases h
  · split at h
    · cases h
    · omega

/-! Places, sorted. -/
/-- A strict order of the places below n, of any two of which one is ahead. -/
structure Strict (n : Nat) (A : Nat → Nat → Bool) : Prop where
  irr : ∀ i, i < n → A i i = false
  asy : ∀ i k, i < n → k < n → A i k = true → A k i = false
  tri : ∀ i j k, i < n → j < n → k < n → A i j = true → A j k = true → A i k = true
  tot : ∀ i k, i < n → k < n → i ≠ k → A i k = true ∨ A k i = true
/-- The places below n, each once, each ahead of all that stand behind it. -/
def SortP (n : Nat) (A : Nat → Nat → Bool) (p : List Nat) : Prop := p.Perm (List.range n) ∧ p.Pairwise fun i k => A i k = true
theorem SortP.lt {n : Nat} {A : Nat → Nat → Bool} {p : List Nat} (h : SortP n A p) {i : Nat} (hi : i ∈ p) : i < n := List.mem_range.1 (h.1.mem_iff.1 hi)
theorem SortP.length {n : Nat} {A : Nat → Nat → Bool} {p : List Nat} (h : SortP n A p) : p.length = n := by rw [h.1.length_eq, List.length_range]
theorem perm_one {n : Nat} {A : Nat → Nat → Bool} (hA : Strict n A) : ∀ {p q : List Nat}, (∀ i ∈ p, i < n) → p.Perm q → (p.Pairwise fun i k => A i k = true) → (q.Pairwise fun i k => A i k = true) → p = q
  | [], q, _, hp, _, _ => (List.nil_perm.1 hp).symm
  | a :: x, [], _, hp, _, _ => by have := hp.length_eq; simp at this
  | a :: x, b :: y, hn, hp, h1, h2 => by
    obtain ⟨p1, p2⟩ := List.pairwise_cons.1 h1
    obtain ⟨q1, q2⟩ := List.pairwise_cons.1 h2
    have ha : a < n := hn a List.mem_cons_self
    have hb : b < n := hn b (hp.mem_iff.2 List.mem_cons_self)
    have e : a = b := Classical.byContradiction fun ne => by
      have m1 : b ∈ x := by
        rcases List.mem_cons.1 (hp.mem_iff.2 List.mem_cons_self) with z | z
        · exact absurd z.symm ne
        · exact z
      have m2 : a ∈ y := by
        rcases List.mem_cons.1 (hp.mem_iff.1 List.mem_cons_self) with z | z
        · exact absurd z ne
        · exact z
      have t1 := p1 b m1
      have t2 := q1 a m2
      rw [hA.asy a b ha hb t1] at t2
      cases t2
    subst e
    rw [perm_one hA (fun i hi => hn i (List.mem_cons_of_mem _ hi)) ((List.perm_cons a).1 hp) p2 q2]
theorem SortP.one {n : Nat} {A : Nat → Nat → Bool} (hA : Strict n A) {p q : List Nat} (h : SortP n A p) (k : SortP n A q) : p = q :=
  perm_one hA (fun _ hi => h.lt hi) (h.1.trans k.1.symm) h.2 k.2
/-- How many are ahead of a place. -/
def rank (n : Nat) (A : Nat → Nat → Bool) (i : Nat) : Nat := (List.range n).countP fun k => A k i
theorem SortP.rank {n : Nat} {A : Nat → Nat → Bool} (hA : Strict n A) {p : List Nat} (h : SortP n A p) {r i : Nat} (hr : p[r]? = some i) : rank n A i = r := by
  have hlt := (List.getElem?_eq_some_iff.1 hr).1
  have hi : i < n := h.lt (List.mem_of_getElem? hr)
  unfold Go.Proofs.YtpikndeefiediaaGreatDoor.O.rank
  rw [← h.1.countP_eq]
  have hsplit : p = p.take r ++ i :: p.drop (r + 1) := by
    have : p[r] = i := (List.getElem?_eq_some_iff.1 hr).2
    rw [← this, List.getElem_cons_drop, List.take_append_drop]
  have hpw := h.2
  have hmem : ∀ k ∈ p, k < n := fun k hk => h.lt hk
  rw [hsplit] at hpw hmem
  rw [hsplit, List.countP_append, List.countP_cons]
  obtain ⟨_, p2, p3⟩ := List.pairwise_append.1 hpw
  obtain ⟨p4, _⟩ := List.pairwise_cons.1 p2
  have c1 : (p.take r).countP (fun k => A k i) = r := by
    rw [List.countP_eq_length.2 (fun k hk => p3 k hk i List.mem_cons_self), List.length_take]
    omega
  have c2 : (p.drop (r + 1)).countP (fun k => A k i) = 0 := by
    rw [List.countP_eq_zero]
    intro k hk
    rw [hA.asy i k hi (hmem k (List.mem_append_right _ (List.mem_cons_of_mem _ hk))) (p4 k hk)]
    decide
  rw [c1, c2, hA.irr i hi]
  simp
end Go.Proofs.YtpikndeefiediaaGreatDoor.O

namespace Go.Proofs.YtpikndeefiediaaGreatDoor.O

structure Ky where
  name : ByteArray
  size : Int
  time : Int
  dir : Bool
theorem Tot.flip {α : Type} {c : α → α → Int} (h : Tot c) : Tot fun a b => c b a :=
  ⟨fun a b => h.unit b a, fun a b => h.anti b a, fun x y z h1 h2 => h.trans z y x h2 h1⟩
theorem tot_none {α : Type} : Tot fun _ _ : α => (0 : Int) := ⟨fun _ _ => .inr (.inl rfl), fun _ _ => rfl, fun _ _ _ _ _ => Int.le_refl _⟩
def cmpB (a b : UInt8) : Int := cmpI a.toNat b.toNat
theorem cmpB_tot : Tot cmpB := cmpI_tot.pull fun a : UInt8 => (a.toNat : Int)
theorem cmpB_zero {a b : UInt8} (h : cmpB a b = 0) : a = b := by
  have := cmpI_zero h
  exact UInt8.toNat_inj.1 (by omega)
/-- By bytes. -/
def lessL : List UInt8 → List UInt8 → Int := lexC cmpB
theorem lessL_tot : Tot lessL := cmpB_tot.lex
theorem lessL_zero {a b : List UInt8} (h : lessL a b = 0) : a = b := lex_zero (fun _ _ h => cmpB_zero h) a b h
/-- From the last point on, that isn't the first byte. -/
def extGo (l : List UInt8) : Nat → List UInt8
  | 0 => []
  | i + 1 => if l[i + 1]? = some 46 then l.drop (i + 1) else extGo l i
def extL (l : List UInt8) : List UInt8 := extGo l (l.length - 1)
def digB (b : UInt8) : Bool := decide (48 ≤ b.toNat) && decide (b.toNat ≤ 57)
/-- A number's token: how many digits there are behind the noughts, and these. -/
def numT (d : List UInt8) : List UInt8 :=
  33 :: UInt8.ofNat ((d.dropWhile (· == 48)).length / 256) :: UInt8.ofNat ((d.dropWhile (· == 48)).length % 256) :: d.dropWhile (· == 48)
def tokGo : Nat → List UInt8 → List (List UInt8)
  | 0, _ => []
  | _ + 1, [] => []
  | n + 1, b :: r => if digB b = true then numT ((b :: r).takeWhile digB) :: tokGo n ((b :: r).dropWhile digB) else [126, b] :: tokGo n r
def toks (l : List UInt8) : List (List UInt8) := tokGo l.length l
theorem tokGo_more : ∀ (n m : Nat) (l : List UInt8), l.length ≤ n → l.length ≤ m → tokGo n l = tokGo m l
  | 0, 0, _, _, _ => rfl
  | 0, m + 1, [], _, _ => rfl
  | n + 1, 0, [], _, _ => rfl
  | n + 1, m + 1, [], _, _ => rfl
  | n + 1, m + 1, b :: r, h1, h2 => by
    rw [tokGo, tokGo]
    have hr : r.length ≤ n := by simpa using h1
    have hs : r.length ≤ m := by simpa using h2
    by_cases hb : digB b = true
    · rw [if_pos hb, if_pos hb]
      have hd : ((b :: r).dropWhile digB).length ≤ r.length := by
        rw [List.dropWhile_cons, if_pos hb]
        exact (List.dropWhile_sublist _).length_le
      rw [tokGo_more n m _ (by omega) (by omega)]
    · rw [if_neg hb, if_neg hb, tokGo_more n m r hr hs]
def verL (a b : List UInt8) : Int := lexC lessL (toks a) (toks b)
theorem verL_tot : Tot verL := lessL_tot.lex.pull toks
/-- What an order asks first. -/
def ordC (o : Int) (a b : Ky) : Int :=
  if o = 1 then cmpI b.size a.size else if o = 2 then cmpI b.time a.time else if o = 3 then lessL (extL a.name.data.toList) (extL b.name.data.toList) else if o = 4 then verL a.name.data.toList b.name.data.toList else 0
theorem ordC_tot (o : Int) : Tot (ordC o) := by
  unfold ordC
  by_cases h1 : o = 1
  · simp only [if_pos h1]
    exact (cmpI_tot.flip).pull Ky.size
  · simp only [if_neg h1]
    by_cases h2 : o = 2
    · simp only [if_pos h2]
      exact (cmpI_tot.flip).pull Ky.time
    · simp only [if_neg h2]
      by_cases h3 : o = 3
      · simp only [if_pos h3]
        exact lessL_tot.pull fun a : Ky => extL a.name.data.toList
      · simp only [if_neg h3]
        by_cases h4 : o = 4
        · simp only [if_pos h4]
          exact verL_tot.pull fun a : Ky => a.name.data.toList
        · simp only [if_neg h4]
          exact tot_none
def nameC (a b : Ky) : Int := lessL a.name.data.toList b.name.data.toList
theorem nameC_tot : Tot nameC := lessL_tot.pull fun a : Ky => a.name.data.toList
def cmpK (o : Int) : Ky → Ky → Int := thenC (ordC o) nameC
theorem cmpK_tot (o : Int) : Tot (cmpK o) := (ordC_tot o).then nameC_tot
/-- How keys stand to one another where they are sorted. -/
def dirC (dirs : Bool) (a b : Ky) : Int := if dirs = true then cmpI (if a.dir = true then 0 else 1) (if b.dir = true then 0 else 1) else 0
theorem dirC_tot (dirs : Bool) : Tot (dirC dirs) := by
  unfold dirC
  cases dirs with
  | false => exact tot_none
  | true => exact cmpI_tot.pull fun a : Ky => if a.dir = true then (0 : Int) else 1
def revC (o : Int) (rev : Bool) (a b : Ky) : Int := if rev = true then cmpK o b a else cmpK o a b
theorem revC_tot (o : Int) (rev : Bool) : Tot (revC o rev) := by
  unfold revC
  cases rev with
  | false => exact cmpK_tot o
  | true => exact (cmpK_tot o).flip
def soC (o : Int) (rev dirs : Bool) : Ky → Ky → Int := thenC (dirC dirs) (revC o rev)
theorem soC_tot (o : Int) (rev dirs : Bool) : Tot (soC o rev dirs) := (dirC_tot dirs).then (revC_tot o rev)
def noKy : Ky := ⟨⟨#[]⟩, 0, 0, false⟩
/-- Is the key at i ahead of that at k? What is alike stays as it stood. -/
def aheadL (c : Ky → Ky → Int) (l : List Ky) (i k : Nat) : Bool := decide (c (l.getD i noKy) (l.getD k noKy) < 0) || (decide (c (l.getD i noKy) (l.getD k noKy) = 0) && decide (i < k))
theorem ahead_strict {c : Ky → Ky → Int} (h : Tot c) (l : List Ky) (n : Nat) : Strict n (aheadL c l) := by
  have key : ∀ i k, aheadL c l i k = true ↔ (c (l.getD i noKy) (l.getD k noKy) < 0 ∨ (c (l.getD i noKy) (l.getD k noKy) = 0 ∧ i < k)) := fun i k => by
    unfold aheadL
    simp
  refine ⟨fun i _ => ?_, fun i k _ _ hik => ?_, fun i j k _ _ _ h1 h2 => ?_, fun i k _ _ hne => ?_⟩
  · rw [Bool.eq_false_iff]
    intro q
    have := h.self (l.getD i noKy)
    rcases (key i i).1 q with z | ⟨_, z⟩ <;> omega
  · rw [Bool.eq_false_iff]
    intro q
    have e := h.anti (l.getD i noKy) (l.getD k noKy)
    rcases (key i k).1 hik with z | ⟨z, z2⟩ <;> rcases (key k i).1 q with y | ⟨y, y2⟩ <;> omega
  · rw [key] at h1 h2 ⊢
    have t := h.trans (l.getD i noKy) (l.getD j noKy) (l.getD k noKy)
    have m := @Tot.mid _ _ h (l.getD i noKy) (l.getD j noKy) (l.getD k noKy)
    have a1 : c (l.getD i noKy) (l.getD j noKy) ≤ 0 := by omega
    have a2 : c (l.getD j noKy) (l.getD k noKy) ≤ 0 := by omega
    have a3 := t a1 a2
    by_cases q : c (l.getD i noKy) (l.getD k noKy) = 0
    · have := m a1 a2 q
      exact .inr ⟨q, by omega⟩
    · exact .inl (by omega)
  · rw [key, key]
    have e := h.anti (l.getD i noKy) (l.getD k noKy)
    rcases Int.lt_trichotomy (c (l.getD i noKy) (l.getD k noKy)) 0 with z | z | z
    · exact .inl (.inl z)
    · rcases Nat.lt_or_ge i k with y | y
      · exact .inl (.inr ⟨z, y⟩)
      · exact .inr (.inr ⟨by omega, by omega⟩)
    · exact .inr (.inl (by omega))
/-- The places of a list's keys, in order. -/
def Sorted (c : Ky → Ky → Int) (l : List Ky) (p : List Nat) : Prop := SortP l.length (aheadL c l) p
theorem Sorted.one {c : Ky → Ky → Int} (h : Tot c) {l : List Ky} {p q : List Nat} (hp : Sorted c l p) (hq : Sorted c l q) : p = q := SortP.one (ahead_strict h l _) hp hq
end Go.Proofs.YtpikndeefiediaaGreatDoor.O

namespace Go.Proofs.YtpikndeefiediaaGreatDoor.G
open Go.Proofs.YtpikndeefiediaaGreatDoor.O

abbrev En := ByteArray × Int
def enC (a b : En) : Int := lessL a.1.data.toList b.1.data.toList
theorem enC_tot : Tot enC := lessL_tot.pull fun a : En => a.1.data.toList
theorem bytes_eq {a b : ByteArray} (h : a.data.toList = b.data.toList) : a = b := ByteArray.ext (Array.toList_inj.1 h)
theorem enC_zero {a b : En} (h : enC a b = 0) : a.1 = b.1 := bytes_eq (lessL_zero h)
/-- Ahead of the first one that isn't ahead of it. -/
def insE (x : En) : List En → List En
  | [] => [x]
  | y :: r => if enC y x < 0 then y :: insE x r else x :: y :: r
def sortE (l : List En) : List En := l.foldl (fun out e => insE e out) []
theorem insE_perm (x : En) : ∀ l, (insE x l).Perm (x :: l)
  | [] => List.Perm.refl _
  | y :: r => by
    unfold insE
    split
    · exact ((insE_perm x r).cons y).trans (List.Perm.swap x y r)
    · exact List.Perm.refl _
theorem insE_sorted (x : En) : ∀ l, l.Pairwise (fun a b => enC a b < 0) → (∀ y ∈ l, y.1 ≠ x.1) → (insE x l).Pairwise fun a b => enC a b < 0
  | [], _, _ => List.pairwise_singleton _ _
  | y :: r, h, hx => by
    obtain ⟨h1, h2⟩ := List.pairwise_cons.1 h
    have hne := hx y List.mem_cons_self
    unfold insE
    split
    · rename_i hl
      refine List.pairwise_cons.2 ⟨fun z hz => ?_, insE_sorted x r h2 (fun z hz => hx z (List.mem_cons_of_mem _ hz))⟩
      rcases List.mem_cons.1 ((insE_perm x r).mem_iff.1 hz) with rfl | hz
      · exact hl
      · exact h1 z hz
    · rename_i hl
      have hxy : enC x y < 0 := by
        have e := enC_tot.anti x y
        have n0 : enC y x ≠ 0 := fun z => hne (enC_zero z)
        omega
      refine List.pairwise_cons.2 ⟨fun z hz => ?_, h⟩
      rcases List.mem_cons.1 hz with rfl | hz
      · exact hxy
      · have hyz := h1 z hz
        have t := enC_tot.trans x y z (by omega) (by omega)
        have n0 : enC x z ≠ 0 := fun q => by
          have := enC_tot.mid (x := x) (y := y) (z := z) (by omega) (by omega) q
          omega
        omega
theorem sortE_perm (l : List En) : (sortE l).Perm l := by
  have : ∀ (l acc : List En), (l.foldl (fun out e => insE e out) acc).Perm (l ++ acc) := fun l => by
    induction l with
    | nil => intro acc; exact List.Perm.refl _
    | cons e r ih => intro acc; exact (ih (insE e acc)).trans (((insE_perm e acc).append_left r).trans List.perm_middle)
  have h := this l []
  rwa [List.append_nil] at h
def DiffE (l : List En) : Prop := l.Pairwise fun a b => a.1 ≠ b.1
theorem sortE_sorted {l : List En} (h : DiffE l) : (sortE l).Pairwise fun a b => enC a b < 0 := by
  have : ∀ (l acc : List En), l.Pairwise (fun a b => a.1 ≠ b.1) → (∀ a ∈ l, ∀ b ∈ acc, b.1 ≠ a.1) → acc.Pairwise (fun a b => enC a b < 0) → (l.foldl (fun out e => insE e out) acc).Pairwise fun a b => enC a b < 0 := fun l => by
    induction l with
    | nil => intro acc _ _ h; exact h
    | cons e r ih =>
      intro acc hp hd hs
      obtain ⟨p1, p2⟩ := List.pairwise_cons.1 hp
      refine ih (insE e acc) p2 (fun a ha b hb => ?_) (insE_sorted e acc hs (fun y hy => hd e List.mem_cons_self y hy))
      rcases List.mem_cons.1 ((insE_perm e acc).mem_iff.1 hb) with rfl | hb
      · exact p1 a ha
      · exact hd a (List.mem_cons_of_mem _ ha) b hb
  exact this l [] h (fun _ _ _ hb => by cases hb) List.Pairwise.nil
theorem sorted_same : ∀ (a b : List En), a.Perm b → a.Pairwise (fun a b => enC a b < 0) → b.Pairwise (fun a b => enC a b < 0) → a = b
  | [], b, h, _, _ => by rw [List.Perm.nil_eq h]
  | x :: a, b, h, ha, hb => by
    obtain ⟨a1, a2⟩ := List.pairwise_cons.1 ha
    cases b with
    | nil => exact absurd h.length_eq (by simp)
    | cons y b =>
      obtain ⟨b1, b2⟩ := List.pairwise_cons.1 hb
      have hxy : x = y := by
        rcases List.mem_cons.1 (h.mem_iff.1 List.mem_cons_self) with q | q
        · exact q
        · rcases List.mem_cons.1 (h.mem_iff.2 List.mem_cons_self) with p | p
          · exact p.symm
          · have h1 := b1 x q
            have h2 := a1 y p
            have e := enC_tot.anti x y
            omega
      subst hxy
      rw [sorted_same a b (List.Perm.cons_inv h) a2 b2]
def atE (l : List En) (i : Nat) : En := l.getD i (ByteArray.empty, 0)
/-- By sorted places the same list comes about. -/
theorem places_sorted {l : List En} {A : Nat → Nat → Bool} {p : List Nat} (hd : DiffE l) (hp : SortP l.length A p) (hA : ∀ i k, i < l.length → k < l.length → A i k = true → i ≠ k → enC (atE l i) (atE l k) ≤ 0) : p.map (atE l) = sortE l := by
  have hat : ∀ i, i < l.length → l[i]? = some (atE l i) := fun i hi => by
    unfold atE
    rw [List.getD_eq_getElem?_getD, List.getElem?_eq_getElem hi]
    rfl
  have hall : (List.range l.length).map (atE l) = l := by
    apply List.ext_getElem?
    intro i
    rw [List.getElem?_map]
    rcases Nat.lt_or_ge i l.length with q | q
    · rw [List.getElem?_range q, hat i q]
      rfl
    · rw [List.getElem?_eq_none (by rw [List.length_range]; exact q), List.getElem?_eq_none q]
      rfl
  have hperm : (p.map (atE l)).Perm l := by
    have := hp.1.map (atE l)
    rwa [hall] at this
  refine sorted_same _ _ (hperm.trans (sortE_perm l).symm) ?_ (sortE_sorted hd)
  have hnd : p.Nodup := hp.1.nodup_iff.2 List.nodup_range
  rw [List.pairwise_map]
  have key : ∀ i k, i < l.length → k < l.length → A i k = true → i ≠ k → enC (atE l i) (atE l k) < 0 := fun i k hi hk ha hik => by
    have h1 := hA i k hi hk ha hik
    have h2 : enC (atE l i) (atE l k) ≠ 0 := fun z => by
      have hz := enC_zero z
      unfold DiffE at hd
      rcases Nat.lt_or_gt_of_ne hik with q | q
      · have := List.pairwise_iff_getElem.1 hd i k hi hk q
        have e1 := Option.some.inj ((List.getElem?_eq_getElem hi).symm.trans (hat i hi))
        have e2 := Option.some.inj ((List.getElem?_eq_getElem hk).symm.trans (hat k hk))
        rw [e1, e2] at this
        exact this hz
      · have := List.pairwise_iff_getElem.1 hd k i hk hi q
        have e1 := Option.some.inj ((List.getElem?_eq_getElem hi).symm.trans (hat i hi))
        have e2 := Option.some.inj ((List.getElem?_eq_getElem hk).symm.trans (hat k hk))
        rw [e1, e2] at this
        exact this hz.symm
    omega
  have hlt : ∀ i ∈ p, i < l.length := fun i hi => hp.lt hi
  have h2 := hp.2
  clear hperm hp hall hA
  induction p with
  | nil => exact List.Pairwise.nil
  | cons i r ih =>
    obtain ⟨p1, p2⟩ := List.pairwise_cons.1 h2
    obtain ⟨n1, n2⟩ := List.nodup_cons.1 hnd
    exact List.pairwise_cons.2 ⟨fun k hk => key i k (hlt i List.mem_cons_self) (hlt k (List.mem_cons_of_mem _ hk)) (p1 k hk) (fun q => n1 (q ▸ hk)), ih n2 (fun i hi => hlt i (List.mem_cons_of_mem _ hi)) p2⟩
end Go.Proofs.YtpikndeefiediaaGreatDoor.G
