/-
  Plain facts on formats, ahead of stage 5: a format written directive by directive; one behind the other; how long it gets; numbers in two and three digits. Conditions: none.
-/
import Derived.Lib.ItoaNum
set_option linter.unusedVariables false
namespace Go.Proofs.YtigkdehaepenhaaDoor.S
open Go.Lib

/-- A format written: 'one' says what a directive writes, or that it is none. -/
def fmtL (one : UInt8 → Option (List UInt8)) : List UInt8 → List UInt8
  | [] => []
  | [c] => [c]
  | c :: e :: r => if c = 37 then (match one e with | some s => s ++ fmtL one r | none => c :: fmtL one (e :: r)) else c :: fmtL one (e :: r)
theorem fmtL_nil (one : UInt8 → Option (List UInt8)) : fmtL one [] = [] := by rw [fmtL]
theorem fmtL_last (one : UInt8 → Option (List UInt8)) (c : UInt8) : fmtL one [c] = [c] := by rw [fmtL]
theorem fmtL_plain (one : UInt8 → Option (List UInt8)) {c : UInt8} (r : List UInt8) (h : c ≠ 37) : fmtL one (c :: r) = c :: fmtL one r := by
  cases r with
  | nil => rw [fmtL_last, fmtL_nil]
  | cons e r => rw [fmtL, if_neg h]
theorem fmtL_told (one : UInt8 → Option (List UInt8)) {e : UInt8} {s : List UInt8} (r : List UInt8) (h : one e = some s) : fmtL one (37 :: e :: r) = s ++ fmtL one r := by
  rw [fmtL, if_pos rfl, h]
theorem fmtL_none (one : UInt8 → Option (List UInt8)) {e : UInt8} (r : List UInt8) (h : one e = none) : fmtL one (37 :: e :: r) = 37 :: fmtL one (e :: r) := by
  rw [fmtL, if_pos rfl, h]
/-- Two formats, the first of which doesn't end with a %, are written one behind the other. -/
theorem fmtL_append (one : UInt8 → Option (List UInt8)) (g : List UInt8) : ∀ (k : Nat) (f : List UInt8), f.length ≤ k → f.getLast? ≠ some 37 → fmtL one (f ++ g) = fmtL one f ++ fmtL one g
  | _, [], _, _ => by rw [fmtL_nil]; rfl
  | 0, _ :: _, h, _ => by simp at h
  | k + 1, c :: r, h, hl => by
    have hk : r.length ≤ k := by simpa using h
    by_cases hc : c = 37
    · subst hc
      cases r with
      | nil => exact absurd rfl hl
      | cons e r =>
        have hl2 : (e :: r).getLast? ≠ some 37 := by simpa using hl
        rw [List.cons_append, List.cons_append]
        cases ho : one e with
        | none =>
          rw [fmtL_none one _ ho, fmtL_none one _ ho, ← List.cons_append, fmtL_append one g k (e :: r) hk hl2, List.cons_append]
        | some s =>
          rw [fmtL_told one _ ho, fmtL_told one _ ho, fmtL_append one g k r (by simp at hk; omega) ?_, List.append_assoc]
          cases r with
          | nil => simp
          | cons x r => simpa using hl2
    · rw [List.cons_append, fmtL_plain one _ hc, fmtL_plain one _ hc, List.cons_append]
      rw [fmtL_append one g k r hk ?_]
      cases r with
      | nil => simp
      | cons x r => simpa using hl
/-- How long it gets. -/
theorem fmtL_length (one : UInt8 → Option (List UInt8)) (m : Nat) (hm : ∀ e s, one e = some s → s.length ≤ m) (h1 : 1 ≤ m) : ∀ (k : Nat) (f : List UInt8), f.length ≤ k → (fmtL one f).length ≤ m * f.length
  | _, [], _ => by rw [fmtL_nil]; simp
  | 0, _ :: _, h => by simp at h
  | k + 1, c :: r, h => by
    have hk : r.length ≤ k := by simpa using h
    have hr := fmtL_length one m hm h1 k r hk
    have e1 : m * (c :: r).length = m * r.length + m := by rw [List.length_cons, Nat.mul_succ]
    by_cases hc : c = 37
    · subst hc
      cases r with
      | nil => rw [fmtL_last]; simpa using h1
      | cons e r =>
        cases ho : one e with
        | none =>
          rw [fmtL_none one _ ho, e1, List.length_cons]
          omega
        | some s =>
          have hs := hm e s ho
          have hr2 := fmtL_length one m hm h1 k r (by simp at hk; omega)
          have e2 : m * (e :: r).length = m * r.length + m := by rw [List.length_cons, Nat.mul_succ]
          rw [fmtL_told one _ ho, e1, List.length_append]
          omega
    · rw [fmtL_plain one _ hc, e1, List.length_cons]
      omega

/-- A number below 100 in two digits, one below 1000 in three. -/
def twoL (n : Nat) : List UInt8 := [UInt8.ofNat (48 + n / 10 % 10), UInt8.ofNat (48 + n % 10)]
def threeL (n : Nat) : List UInt8 := UInt8.ofNat (48 + n / 100) :: twoL (n % 100)
theorem itoa_two : ∀ n : Fin 100, itoa (n.val : Int) = if n.val < 10 then [UInt8.ofNat (48 + n.val)] else twoL n.val := by decide +kernel
theorem itoa_three : ∀ n : Fin 1000, itoa (n.val : Int) = if n.val < 10 then [UInt8.ofNat (48 + n.val)] else if n.val < 100 then twoL n.val else threeL n.val := by decide +kernel
theorem two_small (n : Nat) (h : n < 10) : twoL n = 48 :: [UInt8.ofNat (48 + n)] := by
  unfold twoL
  rw [show n / 10 % 10 = 0 by omega, show n % 10 = n by omega]
  rfl
theorem three_small (n : Nat) (h : n < 100) : threeL n = 48 :: twoL n := by
  unfold threeL
  rw [show n / 100 = 0 by omega, show n % 100 = n by omega]
  rfl
end Go.Proofs.YtigkdehaepenhaaDoor.S
