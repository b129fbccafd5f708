/-
  Plain facts: the date a second later. Conditions: none.
-/
import Derived.Test.YtojlcnafheclmaaDoorDAwake
namespace Go.Proofs.YtojlcnafheclmaaDoor
open Go.RowKit

/-- What a date is behind its last second: the next of the day, or the next day's first. -/
inductive NextD (y m d h i s wd yd : Int) : Value → Prop where
  | second (a : s < 59) : NextD y m d h i s wd yd (dv y m d h i (s + 1) wd yd)
  | minute (a : s = 59) (b : i < 59) : NextD y m d h i s wd yd (dv y m d h (i + 1) 0 wd yd)
  | hour (a : s = 59) (b : i = 59) (c : h < 23) : NextD y m d h i s wd yd (dv y m d (h + 1) 0 0 wd yd)
  | day (a : s = 59) (b : i = 59) (c : h = 23) (e : d < monthLen y m) : NextD y m d h i s wd yd (dv y m (d + 1) 0 0 0 ((wd + 1) % 7) (yd + 1))
  | month (a : s = 59) (b : i = 59) (c : h = 23) (e : d = monthLen y m) (f : m < 12) : NextD y m d h i s wd yd (dv y (m + 1) 1 0 0 0 ((wd + 1) % 7) (yd + 1))
  | year (a : s = 59) (b : i = 59) (c : h = 23) (e : d = monthLen y m) (f : m = 12) : NextD y m d h i s wd yd (dv (y + 1) 1 1 0 0 0 ((wd + 1) % 7) 1)
theorem dv_eq {y m d h i s wd yd y' m' d' h' i' s' wd' yd' : Int} (e1 : y = y') (e2 : m = m') (e3 : d = d') (e4 : h = h') (e5 : i = i') (e6 : s = s') (e7 : wd = wd') (e8 : yd = yd') : dv y m d h i s wd yd = dv y' m' d' h' i' s' wd' yd' := by rw [e1, e2, e3, e4, e5, e6, e7, e8]
theorem next_date (T : Int) (h1 : -9223372036854900000 ≤ T) (h2 : T ≤ 9223372036854900000) : ∃ y m d h i s wd yd, dateV T = dv y m d h i s wd yd ∧ NextD y m d h i s wd yd (dateV (T + 1)) ∧ (-302000000000 ≤ y ∧ y ≤ 302000000000) ∧ (1 ≤ m ∧ m ≤ 12) ∧ (1 ≤ d ∧ d ≤ 31) ∧ (0 ≤ h ∧ h ≤ 23) ∧ (0 ≤ i ∧ i ≤ 59) ∧ (0 ≤ s ∧ s ≤ 59) ∧ (0 ≤ wd ∧ wd ≤ 6) ∧ (1 ≤ yd ∧ yd ≤ 366) := by
  have hy := yearOf_bd (T / 86400) (by omega) (by omega)
  have hd := mdayOf_bd (T / 86400)
  have hm := monOf_bd (T / 86400)
  have hw := weekday_bd (T / 86400)
  have hyd := ydayOf_bd (T / 86400)
  refine ⟨_, _, _, _, _, _, _, _, rfl, ?_, hy, hm, hd, by omega, by omega, by omega, hw, hyd⟩
  by_cases hl : T % 86400 < 86399
  · have e1 : (T + 1) / 86400 = T / 86400 := by omega
    have e2 : (T + 1) % 86400 = T % 86400 + 1 := by omega
    by_cases c1 : T % 86400 % 60 < 59
    · have : dateV (T + 1) = dv (yearOf (T / 86400)) (monOf (T / 86400)) (mdayOf (T / 86400)) (T % 86400 / 3600) (T % 86400 / 60 % 60) (T % 86400 % 60 + 1) (weekday (T / 86400)) (ydayOf (T / 86400)) := by
        unfold dateV
        rw [e1, e2]
        exact dv_eq rfl rfl rfl (by omega) (by omega) (by omega) rfl rfl
      rw [this]
      exact .second c1
    · by_cases c2 : T % 86400 / 60 % 60 < 59
      · have : dateV (T + 1) = dv (yearOf (T / 86400)) (monOf (T / 86400)) (mdayOf (T / 86400)) (T % 86400 / 3600) (T % 86400 / 60 % 60 + 1) 0 (weekday (T / 86400)) (ydayOf (T / 86400)) := by
          unfold dateV
          rw [e1, e2]
          exact dv_eq rfl rfl rfl (by omega) (by omega) (by omega) rfl rfl
        rw [this]
        exact .minute (by omega) c2
      · have : dateV (T + 1) = dv (yearOf (T / 86400)) (monOf (T / 86400)) (mdayOf (T / 86400)) (T % 86400 / 3600 + 1) 0 0 (weekday (T / 86400)) (ydayOf (T / 86400)) := by
          unfold dateV
          rw [e1, e2]
          exact dv_eq rfl rfl rfl (by omega) (by omega) (by omega) rfl rfl
        rw [this]
        exact .hour (by omega) (by omega) (by omega)
  · have e1 : (T + 1) / 86400 = T / 86400 + 1 := by omega
    have e2 : (T + 1) % 86400 = 0 := by omega
    obtain ⟨n1, n2, n3⟩ := (isDay (T / 86400)).next
    have hb := (isDay (T / 86400)).bounds
    have k1 : T % 86400 % 60 = 59 := by omega
    have k2 : T % 86400 / 60 % 60 = 59 := by omega
    have k3 : T % 86400 / 3600 = 23 := by omega
    have kw := weekday_next (T / 86400)
    by_cases c1 : mdayOf (T / 86400) < monthLen (yearOf (T / 86400)) (monOf (T / 86400))
    · obtain ⟨f1, f2, f3, f4⟩ := isDay_eq (n1 c1)
      have : dateV (T + 1) = dv (yearOf (T / 86400)) (monOf (T / 86400)) (mdayOf (T / 86400) + 1) 0 0 0 ((weekday (T / 86400) + 1) % 7) (ydayOf (T / 86400) + 1) := by
        unfold dateV
        rw [e1, e2]
        exact dv_eq f1.symm f2.symm f3.symm (by omega) (by omega) (by omega) kw f4.symm
      rw [this]
      exact .day k1 k2 k3 c1
    · have c3 : mdayOf (T / 86400) = monthLen (yearOf (T / 86400)) (monOf (T / 86400)) := by omega
      by_cases c2 : monOf (T / 86400) < 12
      · obtain ⟨f1, f2, f3, f4⟩ := isDay_eq (n2 c3 c2)
        have : dateV (T + 1) = dv (yearOf (T / 86400)) (monOf (T / 86400) + 1) 1 0 0 0 ((weekday (T / 86400) + 1) % 7) (ydayOf (T / 86400) + 1) := by
          unfold dateV
          rw [e1, e2]
          exact dv_eq f1.symm f2.symm f3.symm (by omega) (by omega) (by omega) kw f4.symm
        rw [this]
        exact .month k1 k2 k3 c3 c2
      · obtain ⟨f1, f2, f3, f4⟩ := isDay_eq (n3 c3 (by omega))
        have : dateV (T + 1) = dv (yearOf (T / 86400) + 1) 1 1 0 0 0 ((weekday (T / 86400) + 1) % 7) 1 := by
          unfold dateV
          rw [e1, e2]
          exact dv_eq f1.symm f2.symm f3.symm (by omega) (by omega) (by omega) kw f4.symm
        rw [this]
        exact .year k1 k2 k3 c3 (by omega)
end Go.Proofs.YtojlcnafheclmaaDoor
