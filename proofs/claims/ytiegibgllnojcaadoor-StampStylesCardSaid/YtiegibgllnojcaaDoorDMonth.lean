/-
  What date.monthOf and date.ahead return: the month and day of a day of the year, the days ahead of a month. Conditions: the day is one of the year, the month one of the twelve; the table of months lies as the text lays it.
-/
import Derived.Test.YtiegibgllnojcaaDoorDSplit
namespace Go.Proofs.YtiegibgllnojcaaDoor
open Go.RowKit

theorem monthIn_eq {y d m : Int} (h1 : 1 ≤ d) (h2 : d ≤ yearLen y) (m1 : 1 ≤ m) (m2 : m ≤ 12) (a : toMonth y m < d) (b : d ≤ toMonth y (m + 1)) : m = monthIn y d := by
  obtain ⟨c1, c2, c3, c4⟩ := monthIn_ok y d h1 h2
  exact month_one y (d := d - 1) m1 m2 c1 c2 (by omega) (by omega) (by omega) (by omega)
theorem toMonth_bd (y : Int) {m : Int} (h1 : 1 ≤ m) (h2 : m ≤ 13) : 0 ≤ toMonth y m ∧ toMonth y m ≤ 366 := by
  have e1 := toMonth_1 y
  have e13 := toMonth_13 y
  have := yearLen_bd y
  by_cases a : m = 1
  · subst a; omega
  · have b := toMonth_mono y (show (1 : Int) ≤ 1 by omega) (show 1 < m by omega) (by omega)
    by_cases c : m = 13
    · subst c; omega
    · have := toMonth_mono y h1 (show m < 13 by omega) (by omega)
      omega

def MonthRel (y d : Int) (x m : Value) : Prop := ∃ k : Int, 1 ≤ k ∧ k ≤ 12 ∧ m = .int .i64 k ∧ x = .int .i64 (d - toMonth y k) ∧ toMonth y k < d

set_option maxHeartbeats 1000000 in
theorem monthOf_any (y d : Int) (w : World) (h1 : 1 ≤ d) (h2 : d ≤ yearLen y) (ht : Tab w) :
    Calls Tryd.prog 28 #[.int .i64 y, .int .i64 d] w fun e w' => e = .returned (.tuple #[.int .i64 (monthIn y d), .int .i64 (d - toMonth y (monthIn y d))]) ∧ w = w' := by
  have HT := Lib.hid ht
  have HY := Lib.hid h2
  have hb := (yearLen_bd y).2
  have h3 : d ≤ 366 := by omega
  clear ht h2 hb
  go_enter Tryd.func28, Tryd.ntmps28
  go_wp2
  go_loop [1, 6] (MonthRel y d) (fun _ m => (12 - intOf m).toNat)
  case atStart => exact ⟨1, by omega, by omega, rfl, by rw [toMonth_1]; simp, by rw [toMonth_1]; omega⟩
  case round =>
    obtain ⟨k, k1, k2, rfl, rfl, hk⟩ := hrel
    have hs := toMonth_next y k1 k2
    have hl := monthLen_bd y k1 k2
    have hm := toMonth_bd y k1 (by omega)
    have HS := Lib.hid hs
    by_cases hlt : k < 12
    · by_cases hd : monthLen y k < d - toMonth y k
      · have HK := Lib.hid hk
        clear hs hk
        generalize toMonth y k = T at *
        generalize hL : monthLen y k = L at *
        have HLL := Lib.hid hL
        clear hL
        go_wp2_with (go_at_call 37; refine (days_any _ _ _ (by omega) (by omega) HT.out).mono ?_; rintro e w' ⟨rfl, rfl⟩; rw [HLL.out])
        go_round
        case rel => exact ⟨k + 1, by omega, by omega, rfl, by rw [HS.out]; congr 1; omega, by rw [HS.out]; omega⟩
        case measure => simp [intOf]; omega
      · have HE := Lib.hid (monthIn_eq h1 HY.out k1 k2 hk (by omega))
        clear hs hk
        generalize hT : toMonth y k = T at *
        generalize hL : monthLen y k = L at *
        have HLL := Lib.hid hL
        have HTT := Lib.hid hT
        clear hL hT
        go_wp2_with (go_at_call 37; refine (days_any _ _ _ (by omega) (by omega) HT.out).mono ?_; rintro e w' ⟨rfl, rfl⟩; rw [HLL.out])
        go_ret2
        exact ⟨ret_two HE.out (by rw [← HE.out, HTT.out]), rfl⟩
    · obtain rfl : k = 12 := by omega
      have e13 := toMonth_13 y
      have HE := Lib.hid (monthIn_eq h1 HY.out k1 k2 hk (by have := HY.out; rw [show (12 : Int) + 1 = 13 by decide, e13]; exact this))
      clear hs hk e13
      generalize hT : toMonth y 12 = T at *
      have HTT := Lib.hid hT
      clear hT
      go_wp2
      go_ret2
      exact ⟨ret_two HE.out (by rw [← HE.out, HTT.out]), rfl⟩

def AheadRel (y m : Int) (s i : Value) : Prop := ∃ k : Int, 1 ≤ k ∧ k ≤ m ∧ i = .int .i64 k ∧ s = .int .i64 (toMonth y k)

end Go.Proofs.YtiegibgllnojcaaDoor
