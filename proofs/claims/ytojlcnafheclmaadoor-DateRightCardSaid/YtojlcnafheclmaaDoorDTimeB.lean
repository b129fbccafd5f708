/-
  Plain facts on dates and their times, and what the laws' callees return from a world in which a date lies. Conditions: as each says.
-/
import Derived.Test.YtojlcnafheclmaaDoorDTimeA
import Derived.Test.YtojlcnafheclmaaDoorDRefOf
import Derived.Test.YtojlcnafheclmaaDoorDAwake
namespace Go.Proofs.YtojlcnafheclmaaDoor
open Go.RowKit

theorem yearOf_bd2 (n : Int) (h1 : -107000000000000 ≤ n) (h2 : n ≤ 107000000000000) : -300000000000 ≤ yearOf n ∧ yearOf n ≤ 300000000000 := by
  have m0 : 0 ≤ (n + 719528) % 146097 := by omega
  have m1 : (n + 719528) % 146097 < 146097 := by omega
  obtain ⟨_, _, c, d⟩ := yearIn_ok _ m0 m1
  unfold yearOf
  omega
/-- The date of a time is right, and its time is the time. -/
theorem date_right (T : Int) (h1 : -9223372036854900000 ≤ T) (h2 : T ≤ 9223372036854900000) : ∃ y m d h i s wd yd, dateV T = dv y m d h i s wd yd ∧ RightP y m d h i s wd yd ∧ (toYear y + yd - 1) * 86400 + (h * 3600 + i * 60 + s) = T ∧ -9223372036854775808 ≤ m ∧ m ≤ 9223372036854775807 := by
  have hy := yearOf_bd2 (T / 86400) (by omega) (by omega)
  have D := isDay (T / 86400)
  have hb := D.bounds
  have hm1 := D.m1
  have hm2 := D.m2
  have hyd := D.yday
  refine ⟨_, _, _, _, _, _, _, _, rfl, ⟨hy.1, hy.2, hb.1, hb.2.1, belowB_iff.2 (by omega), belowB_iff.2 (by omega), belowB_iff.2 (by omega), hb.2.2.2.2, ?_⟩, ?_, by omega, by omega⟩
  · rw [show toYear (yearOf (T / 86400)) + ydayOf (T / 86400) - 1 = T / 86400 by omega]
  · rw [show toYear (yearOf (T / 86400)) + ydayOf (T / 86400) - 1 = T / 86400 by omega]
    omega
/-- A right date is its time's. -/
theorem right_date {y m d h i s wd yd T : Int} (R : RightP y m d h i s wd yd) (e : (toYear y + yd - 1) * 86400 + (h * 3600 + i * 60 + s) = T) : dateV T = dv y m d h i s wd yd := by
  obtain ⟨m1, m2⟩ := month_of (y := y) (m := m) rfl R.d1 R.d2
  have D := isDay_of y m1 m2 R.d1 R.d2
  have hyd := R.yday
  have hh := belowB_iff.1 R.hour
  have hi := belowB_iff.1 R.minute
  have hs := belowB_iff.1 R.second
  have e1 : T / 86400 = toYear y + yd - 1 := by omega
  rw [show toYear y + toMonth y m + d - 1 = T / 86400 by omega, ← hyd] at D
  obtain ⟨f1, f2, f3, f4⟩ := isDay_eq D
  have g1 : T % 86400 / 3600 = h := by omega
  have g2 : T % 86400 / 60 % 60 = i := by omega
  have g3 : T % 86400 % 60 = s := by omega
  have g4 : weekday (T / 86400) = wd := by rw [e1]; exact R.wday.symm
  unfold dateV
  rw [g1, g2, g3, g4, ← f1, ← f2, ← f3, ← f4]
/-- A right date of a year that isn't far has a time. -/
theorem near_time {y m d h i s wd yd o : Int} (R : RightP y m d h i s wd yd) (h1 : -290000000000 ≤ y) (h2 : y ≤ 290000000000) : dateV (timeZ y h i s yd o + offB o) = dv y m d h i s wd yd := by
  have ob := offB_bd o
  have hh := belowB_iff.1 R.hour
  have hi := belowB_iff.1 R.minute
  have hs := belowB_iff.1 R.second
  have hyd : 0 ≤ yd ∧ yd ≤ 1000 := by rw [R.yday]; exact sum_of rfl rfl R.d1 R.d2
  have ty : -105930000000000 ≤ toYear y ∧ toYear y ≤ 105930000000000 := by unfold toYear; omega
  rw [timeZ_in (o := o) rfl (by omega) (by omega)]
  exact right_date R (by omega)

variable {w w0 w1 : World} {b : Nat} {y m d h i s wd yd y' m' d' h' i' s' wd' yd' t o : Int}
theorem InBox.alloc (hb : Below w.heap.size w w1) (y m d h i s wd yd : Int) : InBox w w1.heap.size y m d h i s wd yd (w1.alloc (.cells #[.int .i64 y, .int .i64 m, .int .i64 d, .int .i64 h, .int .i64 i, .int .i64 s, .int .i64 wd, .int .i64 yd] 23)) := by
  refine ⟨hb.alloc hb.size _, by simp, ?_, ?_, ?_, ?_, ?_, ?_, ?_, ?_⟩
  all_goals simp [go_sem]
theorem awake_from (hS : InBox w b y m d h i s wd yd w0) (ht : Tab w) :
    Calls Tryd.prog 10 #[] w0 fun e w' => e = .returned (.bool true) ∧ InBox w b y m d h i s wd yd w' := by
  refine (awake_any w0 (ht.keep hS.below)).mono ?_
  rintro e w' ⟨rfl, hb⟩
  exact ⟨rfl, hS.keep hb⟩
theorem refOf_from (hS : InBox w b y m d h i s wd yd w0) (hE : dateV (t + offB o) = dv y' m' d' h' i' s' wd' yd') (h1 : -9223372036854775808 ≤ t) (h2 : t ≤ 9223372036854775807) :
    Calls Tryd.prog 11 #[.int .i64 t, .int .i64 o] w0 fun e w' => e = .returned (.agg #[.int .i64 y', .int .i64 m', .int .i64 d', .int .i64 h', .int .i64 i', .int .i64 s', .int .i64 wd', .int .i64 yd']) ∧ InBox w b y m d h i s wd yd w' := by
  refine (refOf_any t o w0 h1 h2).mono ?_
  rintro e w' ⟨rfl, hb⟩
  exact ⟨by rw [hE, agg_of], hS.keep hb⟩
theorem right_from {x : Bool} (hS : InBox w b y m d h i s wd yd w0) (hR : rightB y m d h i s wd yd = x) (b1 : -9223372036854775808 ≤ m) (b2 : m ≤ 9223372036854775807) (ht : Tab w) :
    Calls Tryd.prog 12 #[.agg #[.int .i64 y, .int .i64 m, .int .i64 d, .int .i64 h, .int .i64 i, .int .i64 s, .int .i64 wd, .int .i64 yd]] w0 fun e w' => e = .returned (.bool x) ∧ InBox w b y m d h i s wd yd w' := by
  refine (right_any y m d h i s wd yd w0 b1 b2 (ht.keep hS.below)).mono ?_
  rintro e w' ⟨rfl, hb⟩
  exact ⟨by rw [hR], hS.keep hb⟩
end Go.Proofs.YtojlcnafheclmaaDoor
