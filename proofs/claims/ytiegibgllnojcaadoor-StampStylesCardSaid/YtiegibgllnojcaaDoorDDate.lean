/-
  Plain facts: the date of a day, and of a time, as functions; the only one that fits. Conditions: none.
-/
import Derived.Test.YtiegibgllnojcaaDoorDMath
set_option linter.unusedVariables false
namespace Go.Proofs.YtiegibgllnojcaaDoor

/-- The days of 400 years ahead of one of them. -/
def aheadYear (y : Int) : Int := y * 365 + (y + 3) / 4 - (y + 99) / 100 + (y + 399) / 400
theorem toYear_ahead (y : Int) : toYear y = aheadYear y - 719528 := by
  unfold toYear aheadYear
  omega
def yearIn (r : Int) : Int := if aheadYear (r / 366 + 1) ≤ r then r / 366 + 1 else r / 366
theorem yearIn_ok (r : Int) (h0 : 0 ≤ r) (h1 : r < 146097) : aheadYear (yearIn r) ≤ r ∧ r < aheadYear (yearIn r + 1) ∧ 0 ≤ yearIn r ∧ yearIn r ≤ 399 := by
  unfold yearIn
  split
  · rename_i h
    have h2 : r < aheadYear (r / 366 + 1 + 1) := by unfold aheadYear; omega
    refine ⟨h, h2, by omega, ?_⟩
    apply Classical.byContradiction
    intro hn
    have : r / 366 = 399 := by omega
    rw [this] at h
    have : aheadYear (399 + 1) = 146097 := by decide
    omega
  · rename_i h
    have h2 : aheadYear (r / 366) ≤ r := by unfold aheadYear; omega
    exact ⟨h2, by omega, by omega, by omega⟩
def yearOf (n : Int) : Int := (n + 719528) / 146097 * 400 + yearIn ((n + 719528) % 146097)
def ydayOf (n : Int) : Int := (n + 719528) % 146097 - aheadYear (yearIn ((n + 719528) % 146097)) + 1
/-- The month of a day of a year (from 1 on). -/
def monthIn (y d : Int) : Int :=
  if d ≤ toMonth y 2 then 1 else if d ≤ toMonth y 3 then 2 else if d ≤ toMonth y 4 then 3 else if d ≤ toMonth y 5 then 4 else if d ≤ toMonth y 6 then 5 else if d ≤ toMonth y 7 then 6
  else if d ≤ toMonth y 8 then 7 else if d ≤ toMonth y 9 then 8 else if d ≤ toMonth y 10 then 9 else if d ≤ toMonth y 11 then 10 else if d ≤ toMonth y 12 then 11 else 12
theorem monthIn_ok (y d : Int) (h1 : 1 ≤ d) (h2 : d ≤ yearLen y) : 1 ≤ monthIn y d ∧ monthIn y d ≤ 12 ∧ toMonth y (monthIn y d) < d ∧ d ≤ toMonth y (monthIn y d + 1) := by
  have e1 := toMonth_1 y
  have e13 := toMonth_13 y
  unfold monthIn
  repeat' split
  all_goals (first | (refine ⟨by decide, by decide, ?_, ?_⟩ <;> (try simp only [show (1 : Int) + 1 = 2 by decide, show (2 : Int) + 1 = 3 by decide, show (3 : Int) + 1 = 4 by decide, show (4 : Int) + 1 = 5 by decide, show (5 : Int) + 1 = 6 by decide, show (6 : Int) + 1 = 7 by decide, show (7 : Int) + 1 = 8 by decide, show (8 : Int) + 1 = 9 by decide, show (9 : Int) + 1 = 10 by decide, show (10 : Int) + 1 = 11 by decide, show (11 : Int) + 1 = 12 by decide, show (12 : Int) + 1 = 13 by decide]) <;> omega))
def monOf (n : Int) : Int := monthIn (yearOf n) (ydayOf n)
def mdayOf (n : Int) : Int := ydayOf n - toMonth (yearOf n) (monOf n)

theorem yearOf_toYear (n : Int) : toYear (yearOf n) ≤ n ∧ n < toYear (yearOf n + 1) ∧ ydayOf n = n - toYear (yearOf n) + 1 := by
  have m0 : 0 ≤ (n + 719528) % 146097 := by omega
  have m1 : (n + 719528) % 146097 < 146097 := by omega
  have e : (n + 719528) / 146097 * 146097 + (n + 719528) % 146097 = n + 719528 := by omega
  unfold yearOf ydayOf
  generalize (n + 719528) / 146097 = c at *
  generalize (n + 719528) % 146097 = r at *
  obtain ⟨a, b, _, _⟩ := yearIn_ok r m0 m1
  have e1 := toYear_400 (yearIn r) c
  have e2 := toYear_400 (yearIn r + 1) c
  have f1 := toYear_ahead (yearIn r)
  have f2 := toYear_ahead (yearIn r + 1)
  rw [show c * 400 + yearIn r + 1 = yearIn r + 1 + 400 * c by omega, show c * 400 + yearIn r = yearIn r + 400 * c by omega, e1, e2]
  omega
theorem isDay (n : Int) : IsDay n (yearOf n) (monOf n) (mdayOf n) (ydayOf n) := by
  obtain ⟨a, b, c⟩ := yearOf_toYear n
  have hy := toYear_next (yearOf n)
  obtain ⟨m1, m2, m3, m4⟩ := monthIn_ok (yearOf n) (ydayOf n) (by omega) (by omega)
  change 1 ≤ monOf n at m1
  change monOf n ≤ 12 at m2
  change toMonth (yearOf n) (monOf n) < ydayOf n at m3
  change ydayOf n ≤ toMonth (yearOf n) (monOf n + 1) at m4
  refine ⟨a, b, m1, m2, by omega, by omega, ?_, c⟩
  unfold mdayOf
  omega
/-- Whatever fits a day is its date. -/
theorem isDay_eq {n y m d yd : Int} (h : IsDay n y m d yd) : y = yearOf n ∧ m = monOf n ∧ d = mdayOf n ∧ yd = ydayOf n := h.one (isDay n)
theorem yearOf_bd (n : Int) (h1 : -110000000000000 ≤ n) (h2 : n ≤ 110000000000000) : -302000000000 ≤ yearOf n ∧ yearOf n ≤ 302000000000 := by
  have m0 : 0 ≤ (n + 719528) % 146097 := by omega
  have m1 : (n + 719528) % 146097 < 146097 := by omega
  obtain ⟨_, _, c, d⟩ := yearIn_ok _ m0 m1
  unfold yearOf
  omega
theorem ydayOf_bd (n : Int) : 1 ≤ ydayOf n ∧ ydayOf n ≤ 366 := by
  have := (isDay n).bounds
  have := yearLen_bd (yearOf n)
  omega
theorem monOf_bd (n : Int) : 1 ≤ monOf n ∧ monOf n ≤ 12 := ⟨(isDay n).m1, (isDay n).m2⟩
theorem mdayOf_bd (n : Int) : 1 ≤ mdayOf n ∧ mdayOf n ≤ 31 := by
  have h := (isDay n).bounds
  have := monthLen_bd (yearOf n) (isDay n).m1 (isDay n).m2
  omega
theorem weekday_bd (n : Int) : 0 ≤ weekday n ∧ weekday n ≤ 6 := by unfold weekday; omega

/-- An offset, cut to a day. -/
def offB (o : Int) : Int := if o < -86400 then -86400 else if 86400 < o then 86400 else o
theorem offB_bd (o : Int) : -86400 ≤ offB o ∧ offB o ≤ 86400 := by
  unfold offB
  split
  · omega
  · split <;> omega
end Go.Proofs.YtiegibgllnojcaaDoor
