/-
  Comparisons that are total orders.
  Conditions: each fact's own.
-/
import Derived.Test.YtfhagjnlliafiaaGreatDoorKHWalkM
import Derived.Test.YtfhagjnlliafiaaGreatDoorKAdd
set_option linter.unusedVariables false
namespace Go.Proofs.YtfhagjnlliafiaaGreatDoor.O
structure Tot {α : Type} (c : α → α → Int) : Prop where
  unit : ∀ a b, c a b = -1 ∨ c a b = 0 ∨ c a b = 1
  anti : ∀ a b, c b a = -c a b
  trans : ∀ x y z, c x y ≤ 0 → c y z ≤ 0 → c x z ≤ 0
theorem Tot.self {α : Type} {c : α → α → Int} (h : Tot c) (a : α) : c a a = 0 := by
  have := h.anti a a
  omega
theorem Tot.pull {α β : Type} {c : α → α → Int} (h : Tot c) (f : β → α) : Tot fun a b => c (f a) (f b) :=
  ⟨fun _ _ => h.unit _ _, fun _ _ => h.anti _ _, fun _ _ _ => h.trans _ _ _⟩
def thenC {α : Type} (c d : α → α → Int) (a b : α) : Int := if c a b = 0 then d a b else c a b
theorem Tot.mid {α : Type} {c : α → α → Int} (h : Tot c) {x y z : α} (h1 : c x y ≤ 0) (h2 : c y z ≤ 0) (h3 : c x z = 0) : c x y = 0 ∧ c y z = 0 := by
  have e := h.anti x z
  have a1 := h.trans y z x h2 (by omega)
  have a2 := h.trans z x y (by omega) h1
  have b1 := h.anti x y
  have b2 := h.anti y z
  omega
theorem Tot.then {α : Type} {c d : α → α → Int} (h : Tot c) (k : Tot d) : Tot (thenC c d) := by
  refine ⟨fun a b => ?_, fun a b => ?_, fun x y z h1 h2 => ?_⟩
  · unfold thenC
    split
    · exact k.unit a b
    · exact h.unit a b
  · unfold thenC
    have := h.anti a b
    by_cases q : c a b = 0
    · rw [if_pos q, if_pos (by omega)]
      exact k.anti a b
    · rw [if_neg q, if_neg (by omega)]
      exact this
  · have p1 : c x y ≤ 0 := by
      unfold thenC at h1
      split at h1 <;> omega
    have p2 : c y z ≤ 0 := by
      unfold thenC at h2
      split at h2 <;> omega
    have p3 := h.trans x y z p1 p2
    unfold thenC
    split
    · rename_i q
      obtain ⟨q1, q2⟩ := h.mid p1 p2 q
      unfold thenC at h1 h2
      rw [if_pos q1] at h1
      rw [if_pos q2] at h2
      exact k.trans x y z h1 h2
    · exact p3
def lexC {α : Type} (c : α → α → Int) : List α → List α → Int
  | [], [] => 0
  | [], _ :: _ => -1
  | _ :: _, [] => 1
  | a :: x, b :: y => if c a b = 0 then lexC c x y else c a b
theorem Tot.lex {α : Type} {c : α → α → Int} (h : Tot c) : Tot (lexC c) := by
  refine ⟨fun a => ?_, fun a => ?_, fun x => ?_⟩
  · induction a with
    | nil => intro b; cases b; exact .inr (.inl rfl); exact .inl rfl
    | cons a x ih =>
      intro b
      cases b with
      | nil => exact .inr (.inr rfl)
      | cons b y =>
        rw [lexC]
        split
        · exact ih y
        · exact h.unit a b
  · induction a with
    | nil => intro b; cases b; rfl; rfl
    | cons a x ih =>
      intro b
      cases b with
      | nil => rfl
      | cons b y =>
        have := h.anti a b
        rw [lexC, lexC]
        by_cases q : c a b = 0
        · rw [if_pos q, if_pos (by omega)]
          exact ih y
        · rw [if_neg q, if_neg (by omega)]
          exact this
  · induction x with
    | nil =>
      intro y z _ _
      cases z with
      | nil => exact Int.le_refl _
      | cons _ _ => show (-1 : Int) ≤ 0; decide
    | cons a x ih =>
      intro y z h1 h2
      cases y with
      | nil => exact absurd (show (1 : Int) ≤ 0 from h1) (by decide)
      | cons b y =>
        cases z with
        | nil => exact absurd (show (1 : Int) ≤ 0 from h2) (by decide)
        | cons d z =>
          rw [lexC] at h1 h2 ⊢
          have p1 : c a b ≤ 0 := by split at h1 <;> omega
          have p2 : c b d ≤ 0 := by split at h2 <;> omega
          have p3 := h.trans a b d p1 p2
          split
          · rename_i q
            obtain ⟨q1, q2⟩ := h.mid p1 p2 q
            rw [if_pos q1] at h1
            rw [if_pos q2] at h2
            exact ih y z h1 h2
          · exact p3
def cmpI (a b : Int) : Int := if a < b then -1 else if b < a then 1 else 0
theorem cmpI_tot : Tot cmpI := by
  refine ⟨fun a b => ?_, fun a b => ?_, fun x y z h1 h2 => ?_⟩
  · unfold cmpI; split; exact .inl rfl; split; exact .inr (.inr rfl); exact .inr (.inl rfl)
  · unfold cmpI
    by_cases h : a < b
    · rw [if_pos h, if_neg (by omega), if_pos h]; rfl
    · rw [if_neg h]
      by_cases k : b < a
      · rw [if_pos k, if_pos k]
        rw [if_neg h]
      · rw [if_neg k, if_neg k, if_neg h]; rfl
  · have e1 : x ≤ y := by
      unfold cmpI at h1
      split at h1
      · omega
      · split at h1
        · omega
        · omega
    have e2 : y ≤ z := by
      unfold cmpI at h2
      split at h2
      · omega
      · split at h2
        · omega
        · omega
    unfold cmpI
    split
    · decide
    · rw [if_neg (by omega)]
      exact Int.le_refl _
structure Strict (n : Nat) (A : Nat → Nat → Bool) : Prop where
  irr : ∀ i, i < n → A i i = false
  asy : ∀ i k, i < n → k < n → A i k = true → A k i = false
  tri : ∀ i j k, i < n → j < n → k < n → A i j = true → A j k = true → A i k = true
  tot : ∀ i k, i < n → k < n → i ≠ k → A i k = true ∨ A k i = true
def SortP (n : Nat) (A : Nat → Nat → Bool) (p : List Nat) : Prop := p.Perm (List.range n) ∧ p.Pairwise fun i k => A i k = true
theorem SortP.lt {n : Nat} {A : Nat → Nat → Bool} {p : List Nat} (h : SortP n A p) {i : Nat} (hi : i ∈ p) : i < n := List.mem_range.1 (h.1.mem_iff.1 hi)
theorem SortP.length {n : Nat} {A : Nat → Nat → Bool} {p : List Nat} (h : SortP n A p) : p.length = n := by rw [h.1.length_eq, List.length_range]
theorem perm_one {n : Nat} {A : Nat → Nat → Bool} (hA : Strict n A) : ∀ {p q : List Nat}, (∀ i ∈ p, i < n) → p.Perm q → (p.Pairwise fun i k => A i k = true) → (q.Pairwise fun i k => A i k = true) → p = q
  | [], q, _, hp, _, _ => (List.nil_perm.1 hp).symm
  | a :: x, [], _, hp, _, _ => by have := hp.length_eq; simp at this
  | a :: x, b :: y, hn, hp, h1, h2 => by
    obtain ⟨p1, p2⟩ := List.pairwise_cons.1 h1
    obtain ⟨q1, q2⟩ := List.pairwise_cons.1 h2
    have ha : a < n := hn a List.mem_cons_self
    have hb : b < n := hn b (hp.mem_iff.2 List.mem_cons_self)
    have e : a = b := Classical.byContradiction fun ne => by
      have m1 : b ∈ x := by
        rcases List.mem_cons.1 (hp.mem_iff.2 List.mem_cons_self) with z | z
        · exact absurd z.symm ne
        · exact z
      have m2 : a ∈ y := by
        rcases List.mem_cons.1 (hp.mem_iff.1 List.mem_cons_self) with z | z
        · exact absurd z ne
        · exact z
      have t1 := p1 b m1
      have t2 := q1 a m2
      rw [hA.asy a b ha hb t1] at t2
      cases t2
    subst e
    rw [perm_one hA (fun i hi => hn i (List.mem_cons_of_mem _ hi)) ((List.perm_cons a).1 hp) p2 q2]
theorem SortP.one {n : Nat} {A : Nat → Nat → Bool} (hA : Strict n A) {p q : List Nat} (h : SortP n A p) (k : SortP n A q) : p = q :=
  perm_one hA (fun _ hi => h.lt hi) (h.1.trans k.1.symm) h.2 k.2
def rank (n : Nat) (A : Nat → Nat → Bool) (i : Nat) : Nat := (List.range n).countP fun k => A k i
theorem SortP.rank {n : Nat} {A : Nat → Nat → Bool} (hA : Strict n A) {p : List Nat} (h : SortP n A p) {r i : Nat} (hr : p[r]? = some i) : rank n A i = r := by
  have hlt := (List.getElem?_eq_some_iff.1 hr).1
  have hi : i < n := h.lt (List.mem_of_getElem? hr)
  unfold Go.Proofs.YtfhagjnlliafiaaGreatDoor.O.rank
  rw [← h.1.countP_eq]
  have hsplit : p = p.take r ++ i :: p.drop (r + 1) := by
    have : p[r] = i := (List.getElem?_eq_some_iff.1 hr).2
    rw [← this, List.getElem_cons_drop, List.take_append_drop]
  have hpw := h.2
  have hmem : ∀ k ∈ p, k < n := fun k hk => h.lt hk
  rw [hsplit] at hpw hmem
  rw [hsplit, List.countP_append, List.countP_cons]
  obtain ⟨_, p2, p3⟩ := List.pairwise_append.1 hpw
  obtain ⟨p4, _⟩ := List.pairwise_cons.1 p2
  have c1 : (p.take r).countP (fun k => A k i) = r := by
    rw [List.countP_eq_length.2 (fun k hk => p3 k hk i List.mem_cons_self), List.length_take]
    omega
  have c2 : (p.drop (r + 1)).countP (fun k => A k i) = 0 := by
    rw [List.countP_eq_zero]
    intro k hk
    rw [hA.asy i k hi (hmem k (List.mem_append_right _ (List.mem_cons_of_mem _ hk))) (p4 k hk)]
    decide
  rw [c1, c2, hA.irr i hi]
  simp
end Go.Proofs.YtfhagjnlliafiaaGreatDoor.O
namespace Go.Proofs.YtfhagjnlliafiaaGreatDoor.O
structure Ky where
  name : ByteArray
  size : Int
  time : Int
  dir : Bool
theorem Tot.flip {α : Type} {c : α → α → Int} (h : Tot c) : Tot fun a b => c b a :=
  ⟨fun a b => h.unit b a, fun a b => h.anti b a, fun x y z h1 h2 => h.trans z y x h2 h1⟩
theorem tot_none {α : Type} : Tot fun _ _ : α => (0 : Int) := ⟨fun _ _ => .inr (.inl rfl), fun _ _ => rfl, fun _ _ _ _ _ => Int.le_refl _⟩
def cmpB (a b : UInt8) : Int := cmpI a.toNat b.toNat
theorem cmpB_tot : Tot cmpB := cmpI_tot.pull fun a : UInt8 => (a.toNat : Int)
def lessL : List UInt8 → List UInt8 → Int := lexC cmpB
theorem lessL_tot : Tot lessL := cmpB_tot.lex
def extGo (l : List UInt8) : Nat → List UInt8
  | 0 => []
  | i + 1 => if l[i + 1]? = some 46 then l.drop (i + 1) else extGo l i
def extL (l : List UInt8) : List UInt8 := extGo l (l.length - 1)
def digB (b : UInt8) : Bool := decide (48 ≤ b.toNat) && decide (b.toNat ≤ 57)
def numT (d : List UInt8) : List UInt8 :=
  33 :: UInt8.ofNat ((d.dropWhile (· == 48)).length / 256) :: UInt8.ofNat ((d.dropWhile (· == 48)).length % 256) :: d.dropWhile (· == 48)
def tokGo : Nat → List UInt8 → List (List UInt8)
  | 0, _ => []
  | _ + 1, [] => []
  | n + 1, b :: r => if digB b = true then numT ((b :: r).takeWhile digB) :: tokGo n ((b :: r).dropWhile digB) else [126, b] :: tokGo n r
def toks (l : List UInt8) : List (List UInt8) := tokGo l.length l
theorem tokGo_more : ∀ (n m : Nat) (l : List UInt8), l.length ≤ n → l.length ≤ m → tokGo n l = tokGo m l
  | 0, 0, _, _, _ => rfl
  | 0, m + 1, [], _, _ => rfl
  | n + 1, 0, [], _, _ => rfl
  | n + 1, m + 1, [], _, _ => rfl
  | n + 1, m + 1, b :: r, h1, h2 => by
    rw [tokGo, tokGo]
    have hr : r.length ≤ n := by simpa using h1
    have hs : r.length ≤ m := by simpa using h2
    by_cases hb : digB b = true
    · rw [if_pos hb, if_pos hb]
      have hd : ((b :: r).dropWhile digB).length ≤ r.length := by
        rw [List.dropWhile_cons, if_pos hb]
        exact (List.dropWhile_sublist _).length_le
      rw [tokGo_more n m _ (by omega) (by omega)]
    · rw [if_neg hb, if_neg hb, tokGo_more n m r hr hs]
def verL (a b : List UInt8) : Int := lexC lessL (toks a) (toks b)
theorem verL_tot : Tot verL := lessL_tot.lex.pull toks
def ordC (o : Int) (a b : Ky) : Int :=
  if o = 1 then cmpI b.size a.size else if o = 2 then cmpI b.time a.time else if o = 3 then lessL (extL a.name.data.toList) (extL b.name.data.toList) else if o = 4 then verL a.name.data.toList b.name.data.toList else 0
theorem ordC_tot (o : Int) : Tot (ordC o) := by
  unfold ordC
  by_cases h1 : o = 1
  · simp only [if_pos h1]
    exact (cmpI_tot.flip).pull Ky.size
  · simp only [if_neg h1]
    by_cases h2 : o = 2
    · simp only [if_pos h2]
      exact (cmpI_tot.flip).pull Ky.time
    · simp only [if_neg h2]
      by_cases h3 : o = 3
      · simp only [if_pos h3]
        exact lessL_tot.pull fun a : Ky => extL a.name.data.toList
      · simp only [if_neg h3]
        by_cases h4 : o = 4
        · simp only [if_pos h4]
          exact verL_tot.pull fun a : Ky => a.name.data.toList
        · simp only [if_neg h4]
          exact tot_none
def nameC (a b : Ky) : Int := lessL a.name.data.toList b.name.data.toList
theorem nameC_tot : Tot nameC := lessL_tot.pull fun a : Ky => a.name.data.toList
def cmpK (o : Int) : Ky → Ky → Int := thenC (ordC o) nameC
theorem cmpK_tot (o : Int) : Tot (cmpK o) := (ordC_tot o).then nameC_tot
def dirC (dirs : Bool) (a b : Ky) : Int := if dirs = true then cmpI (if a.dir = true then 0 else 1) (if b.dir = true then 0 else 1) else 0
theorem dirC_tot (dirs : Bool) : Tot (dirC dirs) := by
  unfold dirC
  cases dirs with
  | false => exact tot_none
  | true => exact cmpI_tot.pull fun a : Ky => if a.dir = true then (0 : Int) else 1
def revC (o : Int) (rev : Bool) (a b : Ky) : Int := if rev = true then cmpK o b a else cmpK o a b
theorem revC_tot (o : Int) (rev : Bool) : Tot (revC o rev) := by
  unfold revC
  cases rev with
  | false => exact cmpK_tot o
  | true => exact (cmpK_tot o).flip
def soC (o : Int) (rev dirs : Bool) : Ky → Ky → Int := thenC (dirC dirs) (revC o rev)
theorem soC_tot (o : Int) (rev dirs : Bool) : Tot (soC o rev dirs) := (dirC_tot dirs).then (revC_tot o rev)
def noKy : Ky := ⟨⟨#[]⟩, 0, 0, false⟩
def aheadL (c : Ky → Ky → Int) (l : List Ky) (i k : Nat) : Bool := decide (c (l.getD i noKy) (l.getD k noKy) < 0) || (decide (c (l.getD i noKy) (l.getD k noKy) = 0) && decide (i < k))
theorem ahead_strict {c : Ky → Ky → Int} (h : Tot c) (l : List Ky) (n : Nat) : Strict n (aheadL c l) := by
  have key : ∀ i k, aheadL c l i k = true ↔ (c (l.getD i noKy) (l.getD k noKy) < 0 ∨ (c (l.getD i noKy) (l.getD k noKy) = 0 ∧ i < k)) := fun i k => by
    unfold aheadL
    simp
  refine ⟨fun i _ => ?_, fun i k _ _ hik => ?_, fun i j k _ _ _ h1 h2 => ?_, fun i k _ _ hne => ?_⟩
  · rw [Bool.eq_false_iff]
    intro q
    have := h.self (l.getD i noKy)
    rcases (key i i).1 q with z | ⟨_, z⟩ <;> omega
  · rw [Bool.eq_false_iff]
    intro q
    have e := h.anti (l.getD i noKy) (l.getD k noKy)
    rcases (key i k).1 hik with z | ⟨z, z2⟩ <;> rcases (key k i).1 q with y | ⟨y, y2⟩ <;> omega
  · rw [key] at h1 h2 ⊢
    have t := h.trans (l.getD i noKy) (l.getD j noKy) (l.getD k noKy)
    have m := @Tot.mid _ _ h (l.getD i noKy) (l.getD j noKy) (l.getD k noKy)
    have a1 : c (l.getD i noKy) (l.getD j noKy) ≤ 0 := by omega
    have a2 : c (l.getD j noKy) (l.getD k noKy) ≤ 0 := by omega
    have a3 := t a1 a2
    by_cases q : c (l.getD i noKy) (l.getD k noKy) = 0
    · have := m a1 a2 q
      exact .inr ⟨q, by omega⟩
    · exact .inl (by omega)
  · rw [key, key]
    have e := h.anti (l.getD i noKy) (l.getD k noKy)
    rcases Int.lt_trichotomy (c (l.getD i noKy) (l.getD k noKy)) 0 with z | z | z
    · exact .inl (.inl z)
    · rcases Nat.lt_or_ge i k with y | y
      · exact .inl (.inr ⟨z, y⟩)
      · exact .inr (.inr ⟨by omega, by omega⟩)
    · exact .inr (.inl (by omega))
def Sorted (c : Ky → Ky → Int) (l : List Ky) (p : List Nat) : Prop := SortP l.length (aheadL c l) p
theorem Sorted.one {c : Ky → Ky → Int} (h : Tot c) {l : List Ky} {p q : List Nat} (hp : Sorted c l p) (hq : Sorted c l q) : p = q := SortP.one (ahead_strict h l _) hp hq
end Go.Proofs.YtfhagjnlliafiaaGreatDoor.O
namespace Go.Proofs.YtfhagjnlliafiaaGreatDoor.I
abbrev En := ByteArray × Int
def thereL (M : List V.Nd) (l : List En) : List En := l.filter fun e => decide (V.nodeEr M e.2 = 0)
theorem there_snoc (M : List V.Nd) (l : List En) (e : En) : thereL M (l ++ [e]) = if V.nodeEr M e.2 = 0 then thereL M l ++ [e] else thereL M l := by
  unfold thereL
  rw [List.filter_append]
  split
  · rename_i h; rw [List.filter_cons, if_pos (decide_eq_true h)]; rfl
  · rename_i h; rw [List.filter_cons, if_neg (by simpa using h)]; exact List.append_nil _
theorem there_len (M : List V.Nd) (l : List En) : (thereL M l).length ≤ l.length := List.length_filter_le _ _
theorem there_mem {M : List V.Nd} {l : List En} {e : En} (h : e ∈ thereL M l) : e ∈ l ∧ V.nodeEr M e.2 = 0 := by
  obtain ⟨h1, h2⟩ := List.mem_filter.1 h
  exact ⟨h1, of_decide_eq_true h2⟩
def clkI (n : P.Nv) (c : Int) : Int := if c = 0 then n.ta else if c = 2 then n.tc else n.tb
def keyI (M : List V.Nd) (c : Int) (e : En) : O.Ky := ⟨e.1, (V.nvAt M (V.overI M e.2)).size, clkI (V.nvAt M (V.overI M e.2)) c, decide ((V.nvAt M (V.overI M e.2)).kind = 2)⟩
def keysI (M : List V.Nd) (c : Int) (l : List En) : List O.Ky := (thereL M l).map (keyI M c)
theorem keys_len (M : List V.Nd) (c : Int) (l : List En) : (keysI M c l).length = (thereL M l).length := by unfold keysI; rw [List.length_map]
def pickL (l : List En) (p : List Nat) : List En := p.filterMap fun i => l[i]?
theorem pick_snoc {l : List En} {p : List Nat} {i : Nat} {e : En} (h : l[i]? = some e) : pickL l (p ++ [i]) = pickL l p ++ [e] := by
  unfold pickL
  rw [List.filterMap_append, List.filterMap_cons, h]
  rfl
theorem pick_len {l : List En} : ∀ {p : List Nat}, (∀ i ∈ p, i < l.length) → (pickL l p).length = p.length
  | [], _ => rfl
  | i :: r, h => by
    have hi := h i List.mem_cons_self
    have := pick_len (l := l) (p := r) fun j hj => h j (List.mem_cons_of_mem _ hj)
    unfold pickL at this ⊢
    rw [List.filterMap_cons, List.getElem?_eq_getElem hi, List.length_cons, List.length_cons, this]
structure SortedI (M : List V.Nd) (o : Int) (rev dirs : Bool) (c : Int) (l out : List En) : Prop where
  none : o < 0 ∨ 4 < o → out = thereL M l
  some : 0 ≤ o ∧ o ≤ 4 → ∃ p, O.Sorted (O.soC o rev dirs) (keysI M c l) p ∧ out = pickL (thereL M l) p
theorem SortedI.one {M : List V.Nd} {o : Int} {rev dirs : Bool} {c : Int} {l a b : List En} (ha : SortedI M o rev dirs c l a) (hb : SortedI M o rev dirs c l b) : a = b := by
  by_cases h : 0 ≤ o ∧ o ≤ 4
  · obtain ⟨p, hp, rfl⟩ := ha.some h
    obtain ⟨q, hq, rfl⟩ := hb.some h
    rw [hp.one (O.soC_tot o rev dirs) hq]
  · rw [ha.none (by omega), hb.none (by omega)]
theorem sorted_lt {M : List V.Nd} {o : Int} {rev dirs : Bool} {c : Int} {l : List En} {p : List Nat} (h : O.Sorted (O.soC o rev dirs) (keysI M c l) p) : ∀ i ∈ p, i < (thereL M l).length := fun i hi => by
  rw [← keys_len M c l]
  exact O.SortP.lt h hi
theorem SortedI.len {M : List V.Nd} {o : Int} {rev dirs : Bool} {c : Int} {l out : List En} (h : SortedI M o rev dirs c l out) : out.length = (thereL M l).length := by
  by_cases q : 0 ≤ o ∧ o ≤ 4
  · obtain ⟨p, hp, rfl⟩ := h.some q
    rw [pick_len (sorted_lt hp), O.SortP.length hp, keys_len]
  · rw [h.none (by omega)]
theorem SortedI.mem {M : List V.Nd} {o : Int} {rev dirs : Bool} {c : Int} {l out : List En} (h : SortedI M o rev dirs c l out) : ∀ e ∈ out, e ∈ l ∧ V.nodeEr M e.2 = 0 := fun e he => by
  by_cases q : 0 ≤ o ∧ o ≤ 4
  · obtain ⟨p, hp, rfl⟩ := h.some q
    obtain ⟨i, hi, e2⟩ := List.mem_filterMap.1 he
    exact there_mem (List.mem_of_getElem? e2)
  · rw [h.none (by omega)] at he
    exact there_mem he
def blocksI (M : List V.Nd) (l : List En) : Int := ((thereL M l).map fun e => (V.nvAt M (V.overI M e.2)).blocks).foldl (fun s x => N.cutZ (s + x)) 0
end Go.Proofs.YtfhagjnlliafiaaGreatDoor.I
