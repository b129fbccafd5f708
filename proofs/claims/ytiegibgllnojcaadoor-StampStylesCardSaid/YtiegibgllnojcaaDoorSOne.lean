/-
  Plain facts: what each directive of a format writes, as a function of the date's numbers; how long; the number in two or three digits out of its plain digits. Conditions: none.
-/
import Derived.Test.YtiegibgllnojcaaDoorSMath
import Derived.Test.YtiegibgllnojcaaDoorDDate
set_option linter.unusedVariables false
namespace Go.Proofs.YtiegibgllnojcaaDoor
open Go.Lib

def monName (k : Nat) : List UInt8 := [[74, 97, 110], [70, 101, 98], [77, 97, 114], [65, 112, 114], [77, 97, 121], [74, 117, 110], [74, 117, 108], [65, 117, 103], [83, 101, 112], [79, 99, 116], [78, 111, 118], [68, 101, 99]].getD k []
def dayName (k : Nat) : List UInt8 := [[83, 117, 110], [77, 111, 110], [84, 117, 101], [87, 101, 100], [84, 104, 117], [70, 114, 105], [83, 97, 116]].getD k []
/-- An offset written. -/
def zoneL (o : Int) : List UInt8 := (if o < 0 then 45 else 43) :: (twoL ((offB o).natAbs / 3600) ++ twoL ((offB o).natAbs / 60 % 60))
/-- A day written in two places. -/
def dayL (d : Int) : List UInt8 := if d < 10 then [32, UInt8.ofNat (48 + d.toNat)] else twoL d.toNat
/-- What a directive writes. -/
def oneL (t o y m d h i s wd yd : Int) (c : UInt8) : Option (List UInt8) :=
  if c = 89 then some (itoa y)
  else if c = 109 then some (twoL m.toNat)
  else if c = 100 then some (twoL d.toNat)
  else if c = 72 then some (twoL h.toNat)
  else if c = 77 then some (twoL i.toNat)
  else if c = 83 then some (twoL s.toNat)
  else if c = 101 then some (dayL d)
  else if c = 106 then some (threeL yd.toNat)
  else if c = 98 then some (monName (m.toNat - 1))
  else if c = 97 then some (dayName wd.toNat)
  else if c = 115 then some (itoa t)
  else if c = 122 then some (zoneL o)
  else if c = 70 then some (itoa y ++ [45] ++ twoL m.toNat ++ [45] ++ twoL d.toNat)
  else if c = 84 then some (twoL h.toNat ++ [58] ++ twoL i.toNat ++ [58] ++ twoL s.toNat)
  else if c = 37 then some [37]
  else none

theorem decDigits_len : ∀ (k n : Nat), n < 10 ^ k → (decDigits n).length ≤ max k 1
  | 0, n, h => by rw [decDigits, dif_pos (by simp at h; omega)]; simp
  | k + 1, n, h => by
    by_cases hn : n < 10
    · rw [decDigits, dif_pos hn]; simp
    · have := decDigits_len k (n / 10) (by rw [Nat.pow_succ] at h; omega)
      rw [decDigits, dif_neg hn, List.length_append]
      simp only [List.length_cons, List.length_nil]
      cases k with
      | zero => simp at h; omega
      | succ k => omega
theorem itoa_len (n : Int) (h1 : -9223372036854775808 ≤ n) (h2 : n ≤ 9223372036854775807) : (itoa n).length ≤ 20 := by
  unfold itoa
  split
  · have := decDigits_len 19 n.natAbs (by omega)
    simp only [List.length_cons]
    omega
  · have := decDigits_len 19 n.toNat (by omega)
    omega
theorem two_len (n : Nat) : (twoL n).length = 2 := rfl
theorem three_len (n : Nat) : (threeL n).length = 3 := rfl
theorem monName_len (k : Nat) : (monName k).length ≤ 3 := by
  unfold monName
  match k with
  | 0 | 1 | 2 | 3 | 4 | 5 | 6 | 7 | 8 | 9 | 10 | 11 => decide
  | k + 12 => simp
theorem dayName_len (k : Nat) : (dayName k).length ≤ 3 := by
  unfold dayName
  match k with
  | 0 | 1 | 2 | 3 | 4 | 5 | 6 => decide
  | k + 7 => simp
theorem zone_len (o : Int) : (zoneL o).length = 5 := rfl
theorem dayL_len (d : Int) : (dayL d).length = 2 := by
  unfold dayL; split <;> rfl
theorem if_len {p : Prop} [Decidable p] {a l : List UInt8} {r : Option (List UInt8)} {n : Nat} (h : (if p then some a else r) = some l) (ha : a.length ≤ n) (hr : r = some l → l.length ≤ n) : l.length ≤ n := by
  by_cases c : p
  · rw [if_pos c] at h
    injection h with h
    rw [← h]; exact ha
  · rw [if_neg c] at h
    exact hr h
theorem oneL_len (t o y m d h i s wd yd : Int) (ht1 : -9223372036854775808 ≤ t) (ht2 : t ≤ 9223372036854775807) (hy1 : -9223372036854775808 ≤ y) (hy2 : y ≤ 9223372036854775807) (c : UInt8) (l : List UInt8)
    (hl : oneL t o y m d h i s wd yd c = some l) : l.length ≤ 26 := by
  have a := itoa_len y hy1 hy2
  have b := itoa_len t ht1 ht2
  have mn := monName_len (m.toNat - 1)
  have dn := dayName_len wd.toNat
  unfold oneL at hl
  repeat' (refine if_len hl ?_ (fun hl => ?_))
  all_goals first | (cases hl; done) | omega | (simp only [List.length_append, List.length_cons, List.length_nil, two_len, three_len, zone_len, dayL_len]; omega)
/-- Leading noughts make two digits, or three. -/
theorem two_of (n : Int) (h0 : 0 ≤ n) (h1 : n < 100) : List.replicate (2 - (itoa n).length) 48 ++ itoa n = twoL n.toNat := by
  have e := itoa_two ⟨n.toNat, by omega⟩
  simp only [Int.toNat_of_nonneg h0] at e
  rw [e]
  split
  · rename_i h
    rw [two_small _ h]; rfl
  · rw [two_len]; rfl
theorem three_of (n : Int) (h0 : 0 ≤ n) (h1 : n < 1000) : List.replicate (3 - (itoa n).length) 48 ++ itoa n = threeL n.toNat := by
  have e := itoa_three ⟨n.toNat, by omega⟩
  simp only [Int.toNat_of_nonneg h0] at e
  rw [e]
  split
  · rename_i h
    rw [three_small _ (by omega), two_small _ h]; rfl
  · split
    · rename_i h
      rw [three_small _ h, two_len]; rfl
    · rw [three_len]; rfl
theorem day_of (n : Int) (h0 : 0 ≤ n) (h1 : n < 100) : List.replicate (2 - (itoa n).length) 32 ++ itoa n = dayL n := by
  have e := itoa_two ⟨n.toNat, by omega⟩
  simp only [Int.toNat_of_nonneg h0] at e
  rw [e]
  unfold dayL
  split
  · rename_i h
    rw [if_pos (by omega)]; rfl
  · rename_i h
    rw [if_neg (by omega), two_len]; rfl
theorem itoa_two_len (n : Int) (h0 : 0 ≤ n) (h1 : n < 1000) : 1 ≤ (itoa n).length ∧ (itoa n).length ≤ 3 := by
  have e := itoa_three ⟨n.toNat, by omega⟩
  simp only [Int.toNat_of_nonneg h0] at e
  rw [e]
  split
  · simp
  · split
    · rw [two_len]; omega
    · rw [three_len]; omega
end Go.Proofs.YtiegibgllnojcaaDoor
