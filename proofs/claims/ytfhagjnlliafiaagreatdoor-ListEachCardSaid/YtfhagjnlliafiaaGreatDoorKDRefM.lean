/-
  What date.split, date.weekday, date.monthOf and date.ahead return.
  Conditions: each fact's own.
-/
import Derived.Test.YtfhagjnlliafiaaGreatDoorKDBase
import Derived.IntWalk
set_option linter.unusedVariables false
set_option maxHeartbeats 1000000
namespace Go.Proofs.YtfhagjnlliafiaaGreatDoor.D
open Go.RowKit
theorem quo_rem (n p : Int) (hp : 2 ≤ p) : ∃ q r, Int.tdiv n p = q ∧ Int.tmod n p = r ∧ -p < r ∧ r < p ∧ (n ≤ 0 → n ≤ q ∧ q ≤ 0) ∧ (0 ≤ n → 0 ≤ q ∧ q ≤ n) ∧ (r < 0 → q - 1 = n / p ∧ r + p = n % p) ∧ (0 ≤ r → q = n / p ∧ r = n % p) := by
  refine ⟨_, _, rfl, rfl, ?_⟩
  have e := Int.mul_tdiv_add_tmod n p
  have hl : -p < Int.tmod n p := Int.lt_tmod_of_pos n (by omega)
  have hu : Int.tmod n p < p := Int.tmod_lt_of_pos n (by omega)
  have s1 : n ≤ 0 → Int.tmod n p ≤ 0 := fun h => by
    have := Int.tmod_nonneg (a := -n) p (by omega)
    rw [Int.neg_tmod] at this
    omega
  have s2 : 0 ≤ n → 0 ≤ Int.tmod n p := fun h => Int.tmod_nonneg p h
  generalize Int.tdiv n p = q at *
  generalize Int.tmod n p = r at *
  refine ⟨hl, hu, fun h => ?_, fun h => ?_, fun h => ?_, fun h => ?_⟩
  · have := s1 h
    constructor
    · apply Classical.byContradiction
      intro hn
      have : p * q ≤ 2 * q := Int.mul_le_mul_of_nonpos_right (by omega) (by omega)
      omega
    · apply Classical.byContradiction
      intro hn
      have : p * 1 ≤ p * q := Int.mul_le_mul_of_nonneg_left (by omega) (by omega)
      omega
  · have := s2 h
    constructor
    · apply Classical.byContradiction
      intro hn
      have : p * q ≤ p * (-1) := Int.mul_le_mul_of_nonneg_left (by omega) (by omega)
      omega
    · apply Classical.byContradiction
      intro hn
      have : 2 * q ≤ p * q := Int.mul_le_mul_of_nonneg_right (by omega) (by omega)
      omega
  · have := (Int.ediv_emod_unique (a := n) (r := r + p) (q := q - 1) (show 0 < p by omega)).2 ⟨by rw [Int.mul_sub]; omega, by omega, by omega⟩
    exact ⟨this.1.symm, this.2.symm⟩
  · have := (Int.ediv_emod_unique (a := n) (r := r) (q := q) (show 0 < p by omega)).2 ⟨by omega, by omega, by omega⟩
    exact ⟨this.1.symm, this.2.symm⟩
theorem ret_two {k l : IntKind} {a b c d : Int} (h : a = c) (h' : b = d) : Ending.returned (.tuple #[.int k a, .int l b]) = .returned (.tuple #[.int k c, .int l d]) := by rw [h, h']
theorem split_any (n p : Int) (w : World) (h1 : -9223372036854775808 ≤ n) (h2 : n ≤ 9223372036854775807) (hp : 2 ≤ p) (hp2 : p ≤ 1000000) :
    Calls Tryz.prog 157 #[.int .i64 n, .int .i64 p] w fun e w' => e = .returned (.tuple #[.int .i64 (n / p), .int .i64 (n % p)]) ∧ ∃ k, w' = w.drewN k := by
  obtain ⟨q, r, hq, hr, r1, r2, a, b, c, d⟩ := quo_rem n p hp
  have HC := Lib.hid c
  have HD := Lib.hid d
  have q1 : -9223372036854775808 ≤ q := by
    by_cases h : n ≤ 0
    · have := a h; omega
    · have := b (by omega); omega
  have q2 : q ≤ 9223372036854775807 := by
    by_cases h : n ≤ 0
    · have := a h; omega
    · have := b (by omega); omega
  clear a b c d
  have hw : IntKind.i64.wrap q = q := IntWalk.i64_in _ (by omega)
  have hw2 : IntKind.i64.wrap r = r := IntWalk.i64_in _ (by omega)
  have hz : (p == 0) = false := by simp; omega
  by_cases hn : r < 0
  · have q3 : -9223372036854775808 ≤ q - 1 := by
      have := (HC.out hn).1
      have : -9223372036854775808 ≤ n / p := by
        have := Int.ediv_le_ediv (show 0 < p by omega) h1
        have h3 : -9223372036854775808 ≤ -9223372036854775808 / p := by
          have := (Int.le_ediv_iff_mul_le (show 0 < p by omega) (a := -9223372036854775808) (b := -9223372036854775808)).2 (by omega)
          exact this
        omega
      omega
    go_enter Tryz.func157, Tryz.ntmps157
    go_wp2
    go_quiet (fail)
    clear hq hr hw hw2
    go_wp2
    go_ret2
    exact ⟨ret_two (HC.out hn).1 (HC.out hn).2, _, rfl⟩
  · go_enter Tryz.func157, Tryz.ntmps157
    go_wp2
    go_quiet (fail)
    clear hq hr hw hw2
    go_wp2
    go_ret2
    exact ⟨ret_two (HD.out (by omega)).1 (HD.out (by omega)).2, _, rfl⟩
theorem weekday_any (n : Int) (w : World) (h1 : -900000000000000000 ≤ n) (h2 : n ≤ 900000000000000000) :
    Calls Tryz.prog 184 #[.int .i64 n] w fun e w' => e = .returned (.int .i64 (weekday n)) ∧ ∃ k, w' = w.drewN k := by
  go_enter Tryz.func184, Tryz.ntmps184
  go_wp2_with fail
  refine (split_any _ _ _ (by omega) (by omega) (by omega) (by omega)).mono ?_
  rintro e w' ⟨rfl, k, rfl⟩
  go_wp2_with fail
  go_ret
  exact ⟨ret_int (by unfold weekday; omega), _, rfl⟩
end Go.Proofs.YtfhagjnlliafiaaGreatDoor.D
namespace Go.Proofs.YtfhagjnlliafiaaGreatDoor.D
open Go.RowKit
theorem monthIn_eq {y d m : Int} (h1 : 1 ≤ d) (h2 : d ≤ yearLen y) (m1 : 1 ≤ m) (m2 : m ≤ 12) (a : toMonth y m < d) (b : d ≤ toMonth y (m + 1)) : m = monthIn y d := by
  obtain ⟨c1, c2, c3, c4⟩ := monthIn_ok y d h1 h2
  exact month_one y (d := d - 1) m1 m2 c1 c2 (by omega) (by omega) (by omega) (by omega)
theorem toMonth_bd (y : Int) {m : Int} (h1 : 1 ≤ m) (h2 : m ≤ 13) : 0 ≤ toMonth y m ∧ toMonth y m ≤ 366 := by
  have e1 := toMonth_1 y
  have e13 := toMonth_13 y
  have := yearLen_bd y
  by_cases a : m = 1
  · subst a; omega
  · have b := toMonth_mono y (show (1 : Int) ≤ 1 by omega) (show 1 < m by omega) (by omega)
    by_cases c : m = 13
    · subst c; omega
    · have := toMonth_mono y h1 (show m < 13 by omega) (by omega)
      omega
def MonthRel (y d : Int) (x m : Value) : Prop := ∃ k : Int, 1 ≤ k ∧ k ≤ 12 ∧ m = .int .i64 k ∧ x = .int .i64 (d - toMonth y k) ∧ toMonth y k < d
theorem monthOf_any (y d : Int) (w : World) (h1 : 1 ≤ d) (h2 : d ≤ yearLen y) (ht : Tab w) :
    Calls Tryz.prog 186 #[.int .i64 y, .int .i64 d] w fun e w' => e = .returned (.tuple #[.int .i64 (monthIn y d), .int .i64 (d - toMonth y (monthIn y d))]) ∧ w = w' := by
  have HT := Lib.hid ht
  have HY := Lib.hid h2
  have hb := (yearLen_bd y).2
  have h3 : d ≤ 366 := by omega
  clear ht h2 hb
  go_enter Tryz.func186, Tryz.ntmps186
  go_wp2
  go_loop [1, 6] (MonthRel y d) (fun _ m => (12 - intOf m).toNat)
  case atStart => exact ⟨1, by omega, by omega, rfl, by rw [toMonth_1]; simp, by rw [toMonth_1]; omega⟩
  case round =>
    obtain ⟨k, k1, k2, rfl, rfl, hk⟩ := hrel
    have hs := toMonth_next y k1 k2
    have hl := monthLen_bd y k1 k2
    have hm := toMonth_bd y k1 (by omega)
    have HS := Lib.hid hs
    by_cases hlt : k < 12
    · by_cases hd : monthLen y k < d - toMonth y k
      · have HK := Lib.hid hk
        clear hs hk
        generalize toMonth y k = T at *
        generalize hL : monthLen y k = L at *
        have HLL := Lib.hid hL
        clear hL
        go_wp2_with (go_at_call 199; refine (days_any _ _ _ (by omega) (by omega) HT.out).mono ?_; rintro e w' ⟨rfl, rfl⟩; rw [HLL.out])
        go_round
        case rel => exact ⟨k + 1, by omega, by omega, rfl, by rw [HS.out]; congr 1; omega, by rw [HS.out]; omega⟩
        case measure => simp [intOf]; omega
      · have HE := Lib.hid (monthIn_eq h1 HY.out k1 k2 hk (by omega))
        clear hs hk
        generalize hT : toMonth y k = T at *
        generalize hL : monthLen y k = L at *
        have HLL := Lib.hid hL
        have HTT := Lib.hid hT
        clear hL hT
        go_wp2_with (go_at_call 199; refine (days_any _ _ _ (by omega) (by omega) HT.out).mono ?_; rintro e w' ⟨rfl, rfl⟩; rw [HLL.out])
        go_ret2
        exact ⟨ret_two HE.out (by rw [← HE.out, HTT.out]), rfl⟩
    · obtain rfl : k = 12 := by omega
      have e13 := toMonth_13 y
      have HE := Lib.hid (monthIn_eq h1 HY.out k1 k2 hk (by have := HY.out; rw [show (12 : Int) + 1 = 13 by decide, e13]; exact this))
      clear hs hk e13
      generalize hT : toMonth y 12 = T at *
      have HTT := Lib.hid hT
      clear hT
      go_wp2
      go_ret2
      exact ⟨ret_two HE.out (by rw [← HE.out, HTT.out]), rfl⟩
end Go.Proofs.YtfhagjnlliafiaaGreatDoor.D
namespace Go.Proofs.YtfhagjnlliafiaaGreatDoor.D
open Go.RowKit
theorem below_draw {B : Nat} {a w : World} (h : Below B a w) (n : Nat) : Below B a (w.drewN n) := h.trans ⟨rfl, rfl, rfl, Nat.le_refl _, fun _ _ => rfl⟩
theorem bcell {W w1 : World} (hb : Below W.heap.size W w1) : (∀ b o, b < W.heap.size → w1.cell? ⟨b, o, none⟩ = W.cell? ⟨b, o, none⟩) ∧ (∀ b o, b < W.heap.size → w1.frozen? ⟨b, o, none⟩ = W.frozen? ⟨b, o, none⟩) :=
  ⟨fun b o h => hb.cell (p := ⟨b, o, none⟩) h, fun b o h => hb.frozen (p := ⟨b, o, none⟩) h⟩
def dv (y m d h i s wd yd : Int) : Value := .agg #[.int .i64 y, .int .i64 m, .int .i64 d, .int .i64 h, .int .i64 i, .int .i64 s, .int .i64 wd, .int .i64 yd]
theorem yearOf_def (n : Int) : yearOf n = (n + 719528) / 146097 * 400 + yearIn ((n + 719528) % 146097) := rfl
theorem ydayOf_def (n : Int) : ydayOf n = (n + 719528) % 146097 - aheadYear (yearIn ((n + 719528) % 146097)) + 1 := rfl
theorem midnight_any (n : Int) (w : World) (h1 : -110000000000000 ≤ n) (h2 : n ≤ 110000000000000) (ht : Tab w) :
    Calls Tryz.prog 159 #[.int .i64 n] w fun e w' => e = .returned (dv (yearOf n) (monOf n) (mdayOf n) 0 0 0 (weekday n) (ydayOf n)) ∧ Below w.heap.size w w' := by
  have HT := Lib.hid ht
  clear ht
  go_enter Tryz.func159, Tryz.ntmps159
  go_wp2_with fail
  refine (split_any _ _ _ (by omega) (by omega) (by omega) (by omega)).mono ?_
  rintro e w' ⟨rfl, k, rfl⟩
  have r0 : 0 ≤ (n + 719528) % 146097 := by omega
  have r1 : (n + 719528) % 146097 < 146097 := by omega
  have c0 : -1000000000 ≤ (n + 719528) / 146097 := by omega
  have c1 : (n + 719528) / 146097 ≤ 1000000000 := by omega
  have HY := Lib.hid (yearOf_def n)
  have HD := Lib.hid (ydayOf_def n)
  generalize (n + 719528) / 146097 = c at *
  generalize (n + 719528) % 146097 = r at *
  go_wp2_with fail
  refine (round_any _ _ (by omega) (by omega)).mono ?_
  rintro e w' ⟨rfl, rfl⟩
  obtain ⟨_, _, y0, y1⟩ := yearIn_ok r r0 r1
  generalize yearIn r = y at *
  go_wp2_with fail
  refine (weekday_any _ _ (by omega) (by omega)).mono ?_
  rintro e w' ⟨rfl, k2, rfl⟩
  go_wp2_with fail
  refine (ahead_any _ _ (by omega) (by omega)).mono ?_
  rintro e w' ⟨rfl, rfl⟩
  have a0 := aheadYear_bd y y0 (by omega)
  generalize aheadYear y = A at *
  go_wp2_with fail
  have hb := (isDay n).bounds
  have HM := Lib.hid (show monthIn (c * 400 + y) (r - A + 1) = monOf n by rw [← HY.out, ← HD.out]; rfl)
  have HN := Lib.hid (show r - A + 1 - toMonth (c * 400 + y) (monOf n) = mdayOf n by rw [← HY.out, ← HD.out]; rfl)
  refine (monthOf_any _ _ _ (by have := HD.out; omega) (by rw [← HD.out, ← HY.out]; exact hb.2.2.2.1) (HT.out.keep ((below_draw ((Below.refl _ _).alloc (Nat.le_refl _) _) _).alloc (by simp) _))).mono ?_
  rintro e w' ⟨rfl, rfl⟩
  rw [HM.out, HN.out]
  generalize hM : monOf n = M at *
  generalize hD : mdayOf n = D at *
  generalize hW : weekday n = wd at *
  have HM2 := Lib.hid hM
  have HD2 := Lib.hid hD
  have HW2 := Lib.hid hW
  clear hM hD hW
  go_wp2_with fail
  refine bodyPost_ret (v := dv (c * 400 + y) M D 0 0 0 wd (r - A + 1)) (by simp [results, Tryz.results159, go_sem, dv]) rfl ⟨by rw [HY.out, HD.out, HM2.out, HD2.out, HW2.out], ?_⟩
  repeat (first | (with_reducible apply Below.setCell (hp := ?_)) | (with_reducible apply Below.alloc (hB := ?_)) | (with_reducible apply below_draw))
  all_goals (first | (with_reducible exact Below.refl _ _) | simp)
theorem agg_of {y m d h i s wd yd : Int} : dv y m d h i s wd yd = .agg #[.int .i64 y, .int .i64 m, .int .i64 d, .int .i64 h, .int .i64 i, .int .i64 s, .int .i64 wd, .int .i64 yd] := rfl
def dateV (t : Int) : Value := dv (yearOf (t / 86400)) (monOf (t / 86400)) (mdayOf (t / 86400)) (t % 86400 / 3600) (t % 86400 / 60 % 60) (t % 86400 % 60) (weekday (t / 86400)) (ydayOf (t / 86400))
theorem day_off (t o : Int) : t / 86400 + (t % 86400 + o) / 86400 = (t + o) / 86400 ∧ (t % 86400 + o) % 86400 = (t + o) % 86400 := by omega
theorem of_any (t o : Int) (w : World) (h1 : -9223372036854775808 ≤ t) (h2 : t ≤ 9223372036854775807) (ht : Tab w) :
    Calls Tryz.prog 133 #[.int .i64 t, .int .i64 o] w fun e w' => e = .returned (dateV (t + offB o)) ∧ Below w.heap.size w w' := by
  have HT := Lib.hid ht
  clear ht
  have ob := offB_bd o
  obtain ⟨e1, e2⟩ := day_off t (offB o)
  have HE1 := Lib.hid e1
  have HE2 := Lib.hid e2
  clear e1 e2
  go_enter Tryz.func133, Tryz.ntmps133
  go_wp2_with fail
  refine (split_any _ _ _ (by omega) (by omega) (by omega) (by omega)).mono ?_
  rintro e w' ⟨rfl, k, rfl⟩
  have r0 : 0 ≤ t % 86400 := by omega
  have r1 : t % 86400 < 86400 := by omega
  have c0 : -106751991167301 ≤ t / 86400 := by omega
  have c1 : t / 86400 ≤ 106751991167301 := by omega
  generalize t / 86400 = q at *
  generalize t % 86400 = r at *
  go_wp2_with fail
  refine (bounded_any _ _).mono ?_
  rintro e w' ⟨rfl, rfl⟩
  generalize hOB : offB o = b at *
  have HOB := Lib.hid hOB
  clear hOB
  go_wp2_with fail
  refine (split_any _ _ _ (by omega) (by omega) (by omega) (by omega)).mono ?_
  rintro e w' ⟨rfl, k2, rfl⟩
  have s0 : 0 ≤ (r + b) % 86400 := by omega
  have s1 : (r + b) % 86400 < 86400 := by omega
  have d0 : -2 ≤ (r + b) / 86400 := by omega
  have d1 : (r + b) / 86400 ≤ 2 := by omega
  generalize (r + b) / 86400 = x at *
  generalize (r + b) % 86400 = s at *
  go_wp2_with fail
  refine (midnight_any _ _ (by omega) (by omega) (HT.out.keep (below_draw ((Below.refl _ _).alloc (Nat.le_refl _) _) _))).mono ?_
  rintro e w3 ⟨rfl, hb⟩
  rw [HE1.out]
  have HV := Lib.hid (show dateV (t + b) = dv (yearOf ((t + b) / 86400)) (monOf ((t + b) / 86400)) (mdayOf ((t + b) / 86400)) (s / 3600) (s / 60 % 60) (s % 60) (weekday ((t + b) / 86400)) (ydayOf ((t + b) / 86400)) by rw [HE2.out]; rfl)
  generalize yearOf ((t + b) / 86400) = y at *
  generalize monOf ((t + b) / 86400) = m at *
  generalize mdayOf ((t + b) / 86400) = d at *
  generalize weekday ((t + b) / 86400) = wd at *
  generalize ydayOf ((t + b) / 86400) = yd at *
  rw [agg_of]
  obtain ⟨hc, hf⟩ := bcell hb
  have hz : w.heap.size < w3.heap.size := by have := hb.size; simp at this; omega
  have HB := Lib.hid hb
  clear hb
  have hB : Below w.heap.size w w3 := (below_draw ((Below.refl _ _).alloc (Nat.le_refl _) _) (k + k2)).trans (HB.out.mono (by simp))
  have HB2 := Lib.hid hB
  clear hB
  go_wp2_with fail
  refine bodyPost_ret (v := dv y m d (s / 3600) (s / 60 % 60) (s % 60) wd yd) (by simp [results, Tryz.results133, go_sem, dv, hc, hz]) rfl ⟨by rw [HOB.out, HV.out], ?_⟩
  repeat (first | (with_reducible apply Below.setCell (hp := ?_)) | (with_reducible apply Below.alloc (hB := ?_)) | (with_reducible apply below_draw))
  all_goals (first | (with_reducible exact HB2.out) | (simp; omega) | simp)
end Go.Proofs.YtfhagjnlliafiaaGreatDoor.D
namespace Go.Proofs.YtfhagjnlliafiaaGreatDoor.D
open Go.RowKit
end Go.Proofs.YtfhagjnlliafiaaGreatDoor.D
