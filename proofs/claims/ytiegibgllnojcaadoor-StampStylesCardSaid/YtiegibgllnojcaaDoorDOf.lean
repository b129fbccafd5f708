/-
  What date.midnight and date.Of return: the date of a day, and of a time. Conditions: the time and the offset are int64s; the table of months lies as the text lays it.
-/
import Derived.Test.YtiegibgllnojcaaDoorDMonth
namespace Go.Proofs.YtiegibgllnojcaaDoor
open Go.RowKit

theorem below_draw {B : Nat} {a w : World} (h : Below B a w) (n : Nat) : Below B a (w.drewN n) := h.trans ⟨rfl, rfl, rfl, Nat.le_refl _, fun _ _ => rfl⟩
theorem bcell {W w1 : World} (hb : Below W.heap.size W w1) : (∀ b o, b < W.heap.size → w1.cell? ⟨b, o, none⟩ = W.cell? ⟨b, o, none⟩) ∧ (∀ b o, b < W.heap.size → w1.frozen? ⟨b, o, none⟩ = W.frozen? ⟨b, o, none⟩) :=
  ⟨fun b o h => hb.cell (p := ⟨b, o, none⟩) h, fun b o h => hb.frozen (p := ⟨b, o, none⟩) h⟩
/-- A date, as its eight numbers. -/
def dv (y m d h i s wd yd : Int) : Value := .agg #[.int .i64 y, .int .i64 m, .int .i64 d, .int .i64 h, .int .i64 i, .int .i64 s, .int .i64 wd, .int .i64 yd]

theorem yearOf_def (n : Int) : yearOf n = (n + 719528) / 146097 * 400 + yearIn ((n + 719528) % 146097) := rfl
theorem ydayOf_def (n : Int) : ydayOf n = (n + 719528) % 146097 - aheadYear (yearIn ((n + 719528) % 146097)) + 1 := rfl

set_option maxHeartbeats 1000000 in
theorem midnight_any (n : Int) (w : World) (h1 : -110000000000000 ≤ n) (h2 : n ≤ 110000000000000) (ht : Tab w) :
    Calls Tryd.prog 18 #[.int .i64 n] w fun e w' => e = .returned (dv (yearOf n) (monOf n) (mdayOf n) 0 0 0 (weekday n) (ydayOf n)) ∧ Below w.heap.size w w' := by
  have HT := Lib.hid ht
  clear ht
  go_enter Tryd.func18, Tryd.ntmps18
  go_wp2_with fail
  refine (split_any _ _ _ (by omega) (by omega) (by omega) (by omega)).mono ?_
  rintro e w' ⟨rfl, k, rfl⟩
  have r0 : 0 ≤ (n + 719528) % 146097 := by omega
  have r1 : (n + 719528) % 146097 < 146097 := by omega
  have c0 : -1000000000 ≤ (n + 719528) / 146097 := by omega
  have c1 : (n + 719528) / 146097 ≤ 1000000000 := by omega
  have HY := Lib.hid (yearOf_def n)
  have HD := Lib.hid (ydayOf_def n)
  generalize (n + 719528) / 146097 = c at *
  generalize (n + 719528) % 146097 = r at *
  go_wp2_with fail
  refine (round_any _ _ (by omega) (by omega)).mono ?_
  rintro e w' ⟨rfl, rfl⟩
  obtain ⟨_, _, y0, y1⟩ := yearIn_ok r r0 r1
  generalize yearIn r = y at *
  go_wp2_with fail
  refine (weekday_any _ _ (by omega) (by omega)).mono ?_
  rintro e w' ⟨rfl, k2, rfl⟩
  go_wp2_with fail
  refine (ahead_any _ _ (by omega) (by omega)).mono ?_
  rintro e w' ⟨rfl, rfl⟩
  have a0 := aheadYear_bd y y0 (by omega)
  generalize aheadYear y = A at *
  go_wp2_with fail
  have hb := (isDay n).bounds
  have HM := Lib.hid (show monthIn (c * 400 + y) (r - A + 1) = monOf n by rw [← HY.out, ← HD.out]; rfl)
  have HN := Lib.hid (show r - A + 1 - toMonth (c * 400 + y) (monOf n) = mdayOf n by rw [← HY.out, ← HD.out]; rfl)
  refine (monthOf_any _ _ _ (by have := HD.out; omega) (by rw [← HD.out, ← HY.out]; exact hb.2.2.2.1) (HT.out.keep ((below_draw ((Below.refl _ _).alloc (Nat.le_refl _) _) _).alloc (by simp) _))).mono ?_
  rintro e w' ⟨rfl, rfl⟩
  rw [HM.out, HN.out]
  generalize hM : monOf n = M at *
  generalize hD : mdayOf n = D at *
  generalize hW : weekday n = wd at *
  have HM2 := Lib.hid hM
  have HD2 := Lib.hid hD
  have HW2 := Lib.hid hW
  clear hM hD hW
  go_wp2_with fail
  refine bodyPost_ret (v := dv (c * 400 + y) M D 0 0 0 wd (r - A + 1)) (by simp [results, Tryd.results18, go_sem, dv]) rfl ⟨by rw [HY.out, HD.out, HM2.out, HD2.out, HW2.out], ?_⟩
  repeat (first | (with_reducible apply Below.setCell (hp := ?_)) | (with_reducible apply Below.alloc (hB := ?_)) | (with_reducible apply below_draw))
  all_goals (first | (with_reducible exact Below.refl _ _) | simp)

theorem agg_of {y m d h i s wd yd : Int} : dv y m d h i s wd yd = .agg #[.int .i64 y, .int .i64 m, .int .i64 d, .int .i64 h, .int .i64 i, .int .i64 s, .int .i64 wd, .int .i64 yd] := rfl
/-- The date of a time (the offset is in it). -/
def dateV (t : Int) : Value := dv (yearOf (t / 86400)) (monOf (t / 86400)) (mdayOf (t / 86400)) (t % 86400 / 3600) (t % 86400 / 60 % 60) (t % 86400 % 60) (weekday (t / 86400)) (ydayOf (t / 86400))
theorem day_off (t o : Int) : t / 86400 + (t % 86400 + o) / 86400 = (t + o) / 86400 ∧ (t % 86400 + o) % 86400 = (t + o) % 86400 := by omega

set_option maxHeartbeats 1000000 in
theorem of_any (t o : Int) (w : World) (h1 : -9223372036854775808 ≤ t) (h2 : t ≤ 9223372036854775807) (ht : Tab w) :
    Calls Tryd.prog 7 #[.int .i64 t, .int .i64 o] w fun e w' => e = .returned (dateV (t + offB o)) ∧ Below w.heap.size w w' := by
  have HT := Lib.hid ht
  clear ht
  have ob := offB_bd o
  obtain ⟨e1, e2⟩ := day_off t (offB o)
  have HE1 := Lib.hid e1
  have HE2 := Lib.hid e2
  clear e1 e2
  go_enter Tryd.func7, Tryd.ntmps7
  go_wp2_with fail
  refine (split_any _ _ _ (by omega) (by omega) (by omega) (by omega)).mono ?_
  rintro e w' ⟨rfl, k, rfl⟩
  have r0 : 0 ≤ t % 86400 := by omega
  have r1 : t % 86400 < 86400 := by omega
  have c0 : -106751991167301 ≤ t / 86400 := by omega
  have c1 : t / 86400 ≤ 106751991167301 := by omega
  generalize t / 86400 = q at *
  generalize t % 86400 = r at *
  go_wp2_with fail
  refine (bounded_any _ _).mono ?_
  rintro e w' ⟨rfl, rfl⟩
  generalize hOB : offB o = b at *
  have HOB := Lib.hid hOB
  clear hOB
  go_wp2_with fail
  refine (split_any _ _ _ (by omega) (by omega) (by omega) (by omega)).mono ?_
  rintro e w' ⟨rfl, k2, rfl⟩
  have s0 : 0 ≤ (r + b) % 86400 := by omega
  have s1 : (r + b) % 86400 < 86400 := by omega
  have d0 : -2 ≤ (r + b) / 86400 := by omega
  have d1 : (r + b) / 86400 ≤ 2 := by omega
  generalize (r + b) / 86400 = x at *
  generalize (r + b) % 86400 = s at *
  go_wp2_with fail
  refine (midnight_any _ _ (by omega) (by omega) (HT.out.keep (below_draw ((Below.refl _ _).alloc (Nat.le_refl _) _) _))).mono ?_
  rintro e w3 ⟨rfl, hb⟩
  rw [HE1.out]
  have HV := Lib.hid (show dateV (t + b) = dv (yearOf ((t + b) / 86400)) (monOf ((t + b) / 86400)) (mdayOf ((t + b) / 86400)) (s / 3600) (s / 60 % 60) (s % 60) (weekday ((t + b) / 86400)) (ydayOf ((t + b) / 86400)) by rw [HE2.out]; rfl)
  generalize yearOf ((t + b) / 86400) = y at *
  generalize monOf ((t + b) / 86400) = m at *
  generalize mdayOf ((t + b) / 86400) = d at *
  generalize weekday ((t + b) / 86400) = wd at *
  generalize ydayOf ((t + b) / 86400) = yd at *
  rw [agg_of]
  obtain ⟨hc, hf⟩ := bcell hb
  have hz : w.heap.size < w3.heap.size := by have := hb.size; simp at this; omega
  have HB := Lib.hid hb
  clear hb
  have hB : Below w.heap.size w w3 := (below_draw ((Below.refl _ _).alloc (Nat.le_refl _) _) (k + k2)).trans (HB.out.mono (by simp))
  have HB2 := Lib.hid hB
  clear hB
  go_wp2_with fail
  refine bodyPost_ret (v := dv y m d (s / 3600) (s / 60 % 60) (s % 60) wd yd) (by simp [results, Tryd.results7, go_sem, dv, hc, hz]) rfl ⟨by rw [HOB.out, HV.out], ?_⟩
  repeat (first | (with_reducible apply Below.setCell (hp := ?_)) | (with_reducible apply Below.alloc (hB := ?_)) | (with_reducible apply below_draw))
  all_goals (first | (with_reducible exact HB2.out) | (simp; omega) | simp)
end Go.Proofs.YtiegibgllnojcaaDoor
