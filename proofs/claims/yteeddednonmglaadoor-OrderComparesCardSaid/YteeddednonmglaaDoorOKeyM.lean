/-
  The orders of keys in the model: each is total; the places of a list of keys, sorted. Conditions: none.
-/
import Derived.Test.YteeddednonmglaaDoorOTot
namespace Go.Proofs.YteeddednonmglaaDoor

structure Ky where
  name : ByteArray
  size : Int
  time : Int
  dir : Bool
theorem Tot.flip {α : Type} {c : α → α → Int} (h : Tot c) : Tot fun a b => c b a :=
  ⟨fun a b => h.unit b a, fun a b => h.anti b a, fun x y z h1 h2 => h.trans z y x h2 h1⟩
theorem tot_none {α : Type} : Tot fun _ _ : α => (0 : Int) := ⟨fun _ _ => .inr (.inl rfl), fun _ _ => rfl, fun _ _ _ _ _ => Int.le_refl _⟩
def cmpB (a b : UInt8) : Int := cmpI a.toNat b.toNat
theorem cmpB_tot : Tot cmpB := cmpI_tot.pull fun a : UInt8 => (a.toNat : Int)
theorem cmpB_zero {a b : UInt8} (h : cmpB a b = 0) : a = b := by
  have := cmpI_zero h
  exact UInt8.toNat_inj.1 (by omega)
/-- By bytes. -/
def lessL : List UInt8 → List UInt8 → Int := lexC cmpB
theorem lessL_tot : Tot lessL := cmpB_tot.lex
theorem lessL_zero {a b : List UInt8} (h : lessL a b = 0) : a = b := lex_zero (fun _ _ h => cmpB_zero h) a b h
/-- From the last point on, that isn't the first byte. -/
def extGo (l : List UInt8) : Nat → List UInt8
  | 0 => []
  | i + 1 => if l[i + 1]? = some 46 then l.drop (i + 1) else extGo l i
def extL (l : List UInt8) : List UInt8 := extGo l (l.length - 1)
def digB (b : UInt8) : Bool := decide (48 ≤ b.toNat) && decide (b.toNat ≤ 57)
/-- A number's token: how many digits there are behind the noughts, and these. -/
def numT (d : List UInt8) : List UInt8 :=
  33 :: UInt8.ofNat ((d.dropWhile (· == 48)).length / 256) :: UInt8.ofNat ((d.dropWhile (· == 48)).length % 256) :: d.dropWhile (· == 48)
def tokGo : Nat → List UInt8 → List (List UInt8)
  | 0, _ => []
  | _ + 1, [] => []
  | n + 1, b :: r => if digB b = true then numT ((b :: r).takeWhile digB) :: tokGo n ((b :: r).dropWhile digB) else [126, b] :: tokGo n r
def toks (l : List UInt8) : List (List UInt8) := tokGo l.length l
theorem tokGo_more : ∀ (n m : Nat) (l : List UInt8), l.length ≤ n → l.length ≤ m → tokGo n l = tokGo m l
  | 0, 0, _, _, _ => rfl
  | 0, m + 1, [], _, _ => rfl
  | n + 1, 0, [], _, _ => rfl
  | n + 1, m + 1, [], _, _ => rfl
  | n + 1, m + 1, b :: r, h1, h2 => by
    rw [tokGo, tokGo]
    have hr : r.length ≤ n := by simpa using h1
    have hs : r.length ≤ m := by simpa using h2
    by_cases hb : digB b = true
    · rw [if_pos hb, if_pos hb]
      have hd : ((b :: r).dropWhile digB).length ≤ r.length := by
        rw [List.dropWhile_cons, if_pos hb]
        exact (List.dropWhile_sublist _).length_le
      rw [tokGo_more n m _ (by omega) (by omega)]
    · rw [if_neg hb, if_neg hb, tokGo_more n m r hr hs]
def verL (a b : List UInt8) : Int := lexC lessL (toks a) (toks b)
theorem verL_tot : Tot verL := lessL_tot.lex.pull toks
/-- What an order asks first. -/
def ordC (o : Int) (a b : Ky) : Int :=
  if o = 1 then cmpI b.size a.size else if o = 2 then cmpI b.time a.time else if o = 3 then lessL (extL a.name.data.toList) (extL b.name.data.toList) else if o = 4 then verL a.name.data.toList b.name.data.toList else 0
theorem ordC_tot (o : Int) : Tot (ordC o) := by
  unfold ordC
  by_cases h1 : o = 1
  · simp only [if_pos h1]
    exact (cmpI_tot.flip).pull Ky.size
  · simp only [if_neg h1]
    by_cases h2 : o = 2
    · simp only [if_pos h2]
      exact (cmpI_tot.flip).pull Ky.time
    · simp only [if_neg h2]
      by_cases h3 : o = 3
      · simp only [if_pos h3]
        exact lessL_tot.pull fun a : Ky => extL a.name.data.toList
      · simp only [if_neg h3]
        by_cases h4 : o = 4
        · simp only [if_pos h4]
          exact verL_tot.pull fun a : Ky => a.name.data.toList
        · simp only [if_neg h4]
          exact tot_none
def nameC (a b : Ky) : Int := lessL a.name.data.toList b.name.data.toList
theorem nameC_tot : Tot nameC := lessL_tot.pull fun a : Ky => a.name.data.toList
def cmpK (o : Int) : Ky → Ky → Int := thenC (ordC o) nameC
theorem cmpK_tot (o : Int) : Tot (cmpK o) := (ordC_tot o).then nameC_tot
theorem name_same {a b : Ky} (h : a.name = b.name) (o : Int) (h1 : o = 1 → a.size = b.size) (h2 : o = 2 → a.time = b.time) : cmpK o a b = 0 := by
  have h0 : nameC a b = 0 := by unfold nameC; rw [h]; exact lessL_tot.self _
  unfold cmpK thenC
  split
  · exact h0
  · rename_i q
    refine absurd ?_ q
    unfold ordC
    split
    · rename_i z; rw [h1 z]; exact cmpI_tot.self _
    · split
      · rename_i z; rw [h2 z]; exact cmpI_tot.self _
      · split
        · rw [h]; exact lessL_tot.self _
        · split
          · rw [h]; exact verL_tot.self _
          · rfl
theorem cmpK_zero {o : Int} {a b : Ky} (h : cmpK o a b = 0) : a.name = b.name ∧ (o = 1 → a.size = b.size) ∧ (o = 2 → a.time = b.time) := by
  unfold cmpK thenC at h
  split at h
  · rename_i q
    refine ⟨ByteArray.ext (Array.toList_inj.1 (lessL_zero h)), fun z => ?_, fun z => ?_⟩
    · unfold ordC at q
      rw [if_pos z] at q
      exact (cmpI_zero q).symm
    · unfold ordC at q
      rw [if_neg (by omega), if_pos z] at q
      exact (cmpI_zero q).symm
  · rename_i q
    exact absurd h q
theorem cmpK_iff (o : Int) (a b : Ky) : cmpK o a b = 0 ↔ a.name = b.name ∧ (o = 1 → a.size = b.size) ∧ (o = 2 → a.time = b.time) :=
  ⟨cmpK_zero, fun ⟨h1, h2, h3⟩ => name_same h1 o h2 h3⟩

/-- How keys stand to one another where they are sorted. -/
def dirC (dirs : Bool) (a b : Ky) : Int := if dirs = true then cmpI (if a.dir = true then 0 else 1) (if b.dir = true then 0 else 1) else 0
theorem dirC_tot (dirs : Bool) : Tot (dirC dirs) := by
  unfold dirC
  cases dirs with
  | false => exact tot_none
  | true => exact cmpI_tot.pull fun a : Ky => if a.dir = true then (0 : Int) else 1
def revC (o : Int) (rev : Bool) (a b : Ky) : Int := if rev = true then cmpK o b a else cmpK o a b
theorem revC_tot (o : Int) (rev : Bool) : Tot (revC o rev) := by
  unfold revC
  cases rev with
  | false => exact cmpK_tot o
  | true => exact (cmpK_tot o).flip
def soC (o : Int) (rev dirs : Bool) : Ky → Ky → Int := thenC (dirC dirs) (revC o rev)
theorem soC_tot (o : Int) (rev dirs : Bool) : Tot (soC o rev dirs) := (dirC_tot dirs).then (revC_tot o rev)
def noKy : Ky := ⟨⟨#[]⟩, 0, 0, false⟩
/-- Is the key at i ahead of that at k? What is alike stays as it stood. -/
def aheadL (c : Ky → Ky → Int) (l : List Ky) (i k : Nat) : Bool := decide (c (l.getD i noKy) (l.getD k noKy) < 0) || (decide (c (l.getD i noKy) (l.getD k noKy) = 0) && decide (i < k))
theorem ahead_strict {c : Ky → Ky → Int} (h : Tot c) (l : List Ky) (n : Nat) : Strict n (aheadL c l) := by
  have key : ∀ i k, aheadL c l i k = true ↔ (c (l.getD i noKy) (l.getD k noKy) < 0 ∨ (c (l.getD i noKy) (l.getD k noKy) = 0 ∧ i < k)) := fun i k => by
    unfold aheadL
    simp
  refine ⟨fun i _ => ?_, fun i k _ _ hik => ?_, fun i j k _ _ _ h1 h2 => ?_, fun i k _ _ hne => ?_⟩
  · rw [Bool.eq_false_iff]
    intro q
    have := h.self (l.getD i noKy)
    rcases (key i i).1 q with z | ⟨_, z⟩ <;> omega
  · rw [Bool.eq_false_iff]
    intro q
    have e := h.anti (l.getD i noKy) (l.getD k noKy)
    rcases (key i k).1 hik with z | ⟨z, z2⟩ <;> rcases (key k i).1 q with y | ⟨y, y2⟩ <;> omega
  · rw [key] at h1 h2 ⊢
    have t := h.trans (l.getD i noKy) (l.getD j noKy) (l.getD k noKy)
    have m := @Tot.mid _ _ h (l.getD i noKy) (l.getD j noKy) (l.getD k noKy)
    have a1 : c (l.getD i noKy) (l.getD j noKy) ≤ 0 := by omega
    have a2 : c (l.getD j noKy) (l.getD k noKy) ≤ 0 := by omega
    have a3 := t a1 a2
    by_cases q : c (l.getD i noKy) (l.getD k noKy) = 0
    · have := m a1 a2 q
      exact .inr ⟨q, by omega⟩
    · exact .inl (by omega)
  · rw [key, key]
    have e := h.anti (l.getD i noKy) (l.getD k noKy)
    rcases Int.lt_trichotomy (c (l.getD i noKy) (l.getD k noKy)) 0 with z | z | z
    · exact .inl (.inl z)
    · rcases Nat.lt_or_ge i k with y | y
      · exact .inl (.inr ⟨z, y⟩)
      · exact .inr (.inr ⟨by omega, by omega⟩)
    · exact .inr (.inl (by omega))
/-- The places of a list's keys, in order. -/
def Sorted (c : Ky → Ky → Int) (l : List Ky) (p : List Nat) : Prop := SortP l.length (aheadL c l) p
theorem Sorted.one {c : Ky → Ky → Int} (h : Tot c) {l : List Ky} {p q : List Nat} (hp : Sorted c l p) (hq : Sorted c l q) : p = q := SortP.one (ahead_strict h l _) hp hq
end Go.Proofs.YteeddednonmglaaDoor
