/-
  The law DateCycles, walked: it returns true. Conditions: the numbers are an int64, an int and an int8; the table of months lies as the text lays it.
-/
import Derived.Test.YtojlcnafheclmaaDoorDAwake
namespace Go.Proofs.YtojlcnafheclmaaDoor
open Go.RowKit

set_option maxHeartbeats 1000000 in
theorem shift_any (y m d h i s wd yd c : Int) (w : World) (h1 : -302000000000 ≤ y) (h2 : y ≤ 302000000000) (c1 : -128 ≤ c) (c2 : c ≤ 127) :
    Calls Tryd.prog 17 #[.agg #[.int .i64 y, .int .i64 m, .int .i64 d, .int .i64 h, .int .i64 i, .int .i64 s, .int .i64 wd, .int .i64 yd], .int .i64 c] w fun e w' => e = .returned (dv (y + 400 * c) m d h i s wd yd) ∧ Below w.heap.size w w' := by
  go_enter Tryd.func17, Tryd.ntmps17
  go_wp2_with fail
  refine bodyPost_ret (v := dv (y + 400 * c) m d h i s wd yd) (by simp [results, Tryd.results17, go_sem, dv]) rfl ⟨rfl, ?_⟩
  repeat (first | (with_reducible apply Below.setCell (hp := ?_)) | (with_reducible apply Below.alloc (hB := ?_)) | (with_reducible apply below_draw))
  all_goals (first | (with_reducible exact Below.refl _ _) | (simp; omega) | simp)

/-- 400 years later it is the same date. -/
theorem date_cycles (t c b : Int) : dateV (t + c * 12622780800 + b) = dv (yearOf ((t + b) / 86400) + 400 * c) (monOf ((t + b) / 86400)) (mdayOf ((t + b) / 86400)) ((t + b) % 86400 / 3600) ((t + b) % 86400 / 60 % 60) ((t + b) % 86400 % 60) (weekday ((t + b) / 86400)) (ydayOf ((t + b) / 86400)) := by
  have e1 : (t + c * 12622780800 + b) / 86400 = (t + b) / 86400 + 146097 * c := by omega
  have e2 : (t + c * 12622780800 + b) % 86400 = (t + b) % 86400 := by omega
  obtain ⟨f1, f2, f3, f4⟩ := isDay_eq ((isDay ((t + b) / 86400)).cycles c)
  unfold dateV
  rw [e1, e2, ← f1, ← f2, ← f3, ← f4, weekday_400]

theorem cycles_parts (t c b : Int) (h1 : -9000000000000000000 ≤ t + b) (h2 : t + b ≤ 9000000000000000000) : ∃ y m d h i s wd yd, dateV (t + b) = dv y m d h i s wd yd ∧ dateV (t + c * 12622780800 + b) = dv (y + 400 * c) m d h i s wd yd ∧ -302000000000 ≤ y ∧ y ≤ 302000000000 :=
  ⟨_, _, _, _, _, _, _, _, rfl, date_cycles t c b, (yearOf_bd _ (by omega) (by omega)).1, (yearOf_bd _ (by omega) (by omega)).2⟩

set_option maxHeartbeats 1000000 in
theorem cycles_walk (t o c : Int) (w : World) (h1 : -9223372036854775808 ≤ t) (h2 : t ≤ 9223372036854775807) (c1 : -128 ≤ c) (c2 : c ≤ 127) (ht : Tab w) :
    Calls Tryd.prog 7 #[.int .i64 t, .int .i64 o, .int .i8 c] w fun e w' => e = .returned (.bool true) ∧ Below w.heap.size w w' := by
  have HT := Lib.hid ht
  clear ht
  go_enter Tryd.func7, Tryd.ntmps7
  go_wp2_with fail
  refine (awake_any _ HT.out).mono ?_
  rintro e w1 ⟨rfl, hb⟩
  have HB := Lib.hid hb
  clear hb
  by_cases hg : 2305843009213693952 < t
  · go_wp2_with fail
    refine (awake_any _ (HT.out.keep HB.out)).mono ?_
    rintro e w2 ⟨rfl, hb⟩
    have HB2 := Lib.hid (below_two HB.out hb)
    clear hb
    go_wp2_with fail
    go_ret
    exact ⟨rfl, HB2.out⟩
  · by_cases hl : t < -2305843009213693952
    · go_wp2_with fail
      refine (awake_any _ (HT.out.keep HB.out)).mono ?_
      rintro e w2 ⟨rfl, hb⟩
      have HB2 := Lib.hid (below_two HB.out hb)
      clear hb
      go_wp2_with fail
      go_ret
      exact ⟨rfl, HB2.out⟩
    · go_wp2_with fail
      refine (of_any _ _ _ (by omega) (by omega) (HT.out.keep HB.out)).mono ?_
      rintro e w2 ⟨rfl, hb⟩
      have HB2 := Lib.hid (below_two HB.out hb)
      clear hb
      have ob := offB_bd o
      obtain ⟨y, m, d, h, i, s, wd, yd, e1, e2, y1, y2⟩ := cycles_parts t c (offB o) (by omega) (by omega)
      rw [e2, agg_of]
      have HE := Lib.hid e1
      clear e1 e2 ob
      go_wp2_with fail
      refine (of_any _ _ _ (by omega) (by omega) (HT.out.keep HB2.out)).mono ?_
      rintro e w3 ⟨rfl, hb⟩
      have HB3 := Lib.hid (below_two HB2.out hb)
      clear hb
      rw [HE.out, agg_of]
      go_wp2_with fail
      refine (shift_any _ _ _ _ _ _ _ _ _ _ (by omega) (by omega) (by omega) (by omega)).mono ?_
      rintro e w4 ⟨rfl, hb⟩
      have HB4 := Lib.hid (below_two HB3.out hb)
      clear hb
      rw [agg_of]
      go_wp2_with fail
      go_ret
      exact ⟨rfl, HB4.out⟩
end Go.Proofs.YtojlcnafheclmaaDoor
