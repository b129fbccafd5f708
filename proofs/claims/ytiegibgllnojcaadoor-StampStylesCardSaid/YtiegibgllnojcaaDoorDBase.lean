/-
  What the calendar's small functions return: Leap, Days, split, bounded, daysAhead, yearOfRound, weekday, below, and the reference's Leap, Days and year. Conditions: the package's table of months lies as its text lays it; numbers are int64s, or nearer, as each says.
-/
import Derived.Test.YtiegibgllnojcaaDoorRows
import Derived.Test.YtiegibgllnojcaaDoorDDate
import Derived.WalkKit
import Derived.WalkSpells
import Derived.WalkLawsBesides
import Derived.Lib.Hide
import Derived.Lib.OthersKept
import Derived.Deep.QuietTactic
import Derived.BigQuiet
import Derived.Deep.WholeRow
namespace Go.Proofs.YtiegibgllnojcaaDoor
open Go.RowKit

theorem ret_int {k : IntKind} {a b : Int} (h : a = b) : Ending.returned (.int k a) = .returned (.int k b) := by rw [h]
theorem ret_bool {a b : Bool} (h : a = b) : Ending.returned (.bool a) = .returned (.bool b) := by rw [h]
theorem below_two {w a b : World} (h : Below w.heap.size w a) (k : Below a.heap.size a b) : Below w.heap.size w b := h.trans (k.mono h.size)
theorem cell_lt {w : World} {a : Addr} {v : Value} (h : w.cell? a = some v) : a.block < w.heap.size := by
  apply Classical.byContradiction
  intro hn
  have : w.heap[a.block]? = none := Array.getElem?_eq_none (by omega)
  unfold World.cell? at h
  simp [this] at h

/-- The table of months. -/
def lenAt (k : Nat) : Int := [31, 28, 31, 30, 31, 30, 31, 31, 30, 31, 30, 31].getD k 0
structure Tab (w : World) : Prop where
  cell : ∀ k, k < 12 → w.cell? ⟨2, k, none⟩ = some (.int .i64 (lenAt k))
theorem Tab.keep {w w' : World} (h : Tab w) (hb : Below w.heap.size w w') : Tab w' :=
  ⟨fun k hk => by rw [hb.cell (p := ⟨2, k, none⟩) (cell_lt (h.cell k hk))]; exact h.cell k hk⟩

def leapB (y : Int) : Bool := decide (leapP y)
theorem leapB_true {y : Int} (h : leapP y) : leapB y = true := by simpa [leapB] using h
theorem leapB_false {y : Int} (h : ¬ leapP y) : leapB y = false := by simpa [leapB] using h
theorem tmod0 (y k : Int) : Int.tmod y k = 0 ↔ y % k = 0 := by
  rw [← Int.dvd_iff_tmod_eq_zero, ← Int.dvd_iff_emod_eq_zero]
theorem tm_true {y k : Int} (h : y % k = 0) : (Int.tmod y k == 0) = true := by simpa using (tmod0 y k).2 h
theorem tm_false {y k : Int} (h : ¬ y % k = 0) : (Int.tmod y k == 0) = false := by simpa using fun x => h ((tmod0 y k).1 x)
theorem tn_true {y k : Int} (h : ¬ y % k = 0) : (Int.tmod y k != 0) = true := by simpa using fun x => h ((tmod0 y k).1 x)
theorem tn_false {y k : Int} (h : y % k = 0) : (Int.tmod y k != 0) = false := by simpa using (tmod0 y k).2 h

theorem leap_any (y : Int) (w : World) : Calls Tryd.prog 49 #[.int .i64 y] w fun e w' => e = .returned (.bool (leapB y)) ∧ w = w' := by
  by_cases h4 : y % 4 = 0
  · have c4 := tm_true h4
    by_cases h1 : y % 100 = 0
    · have c1 := tn_false h1
      by_cases h0 : y % 400 = 0
      · have c0 := tm_true h0
        have HL := Lib.hid (leapB_true (y := y) ⟨h4, .inr h0⟩)
        clear h4 h1 h0
        go_enter Tryd.func49, Tryd.ntmps49
        go_wp2
        go_ret
        exact ⟨ret_bool HL.out.symm, rfl⟩
      · have c0 := tm_false h0
        have HL := Lib.hid (leapB_false (y := y) (by unfold leapP; omega))
        clear h4 h1 h0
        go_enter Tryd.func49, Tryd.ntmps49
        go_wp2
        go_ret
        exact ⟨ret_bool HL.out.symm, rfl⟩
    · have c1 := tn_true h1
      have HL := Lib.hid (leapB_true (y := y) ⟨h4, .inl h1⟩)
      clear h4 h1
      go_enter Tryd.func49, Tryd.ntmps49
      go_wp2
      go_ret
      exact ⟨ret_bool HL.out.symm, rfl⟩
  · have c4 := tm_false h4
    have HL := Lib.hid (leapB_false (y := y) (by unfold leapP; omega))
    clear h4
    go_enter Tryd.func49, Tryd.ntmps49
    go_wp2
    go_ret
    exact ⟨ret_bool HL.out.symm, rfl⟩

theorem refLeap_any (y : Int) (w : World) : Calls Tryd.prog 60 #[.int .i64 y] w fun e w' => e = .returned (.bool (leapB y)) ∧ w = w' := by
  by_cases h0 : y % 400 = 0
  · have c0 := tm_true h0
    have HL := Lib.hid (leapB_true (y := y) ⟨by omega, .inr h0⟩)
    clear h0
    go_enter Tryd.func60, Tryd.ntmps60
    go_wp2
    go_ret
    exact ⟨ret_bool HL.out.symm, rfl⟩
  · have c0 := tm_false h0
    by_cases h4 : y % 4 = 0
    · have c4 := tm_true h4
      by_cases h1 : y % 100 = 0
      · have c1 := tn_false h1
        have HL := Lib.hid (leapB_false (y := y) (by unfold leapP; omega))
        clear h4 h1 h0
        go_enter Tryd.func60, Tryd.ntmps60
        go_wp2
        go_ret
        exact ⟨ret_bool HL.out.symm, rfl⟩
      · have c1 := tn_true h1
        have HL := Lib.hid (leapB_true (y := y) ⟨h4, .inl h1⟩)
        clear h4 h1 h0
        go_enter Tryd.func60, Tryd.ntmps60
        go_wp2
        go_ret
        exact ⟨ret_bool HL.out.symm, rfl⟩
    · have c4 := tm_false h4
      have HL := Lib.hid (leapB_false (y := y) (by unfold leapP; omega))
      clear h4 h0
      go_enter Tryd.func60, Tryd.ntmps60
      go_wp2
      go_ret
      exact ⟨ret_bool HL.out.symm, rfl⟩

theorem month_at (y m : Int) (h1 : 1 ≤ m) (h2 : m ≤ 12) (hn : ¬ (m = 2 ∧ leapP y)) : lenAt (m.toNat - 1) = monthLen y m := by
  rcases month_cases h1 h2 with rfl | rfl | rfl | rfl | rfl | rfl | rfl | rfl | rfl | rfl | rfl | rfl <;> simp at hn <;> simp [monthLen, lenAt, hn]
theorem month_feb {y : Int} (h : leapP y) : monthLen y 2 = 29 := by simp [monthLen, h]

theorem days_any (y m : Int) (w : World) (h1 : -9223372036854775808 ≤ m) (h2 : m ≤ 9223372036854775807) (ht : Tab w) :
    Calls Tryd.prog 37 #[.int .i64 y, .int .i64 m] w fun e w' => e = .returned (.int .i64 (monthLen y m)) ∧ w = w' := by
  have HT := Lib.hid ht
  clear ht
  by_cases a : m < 1
  · have HL := Lib.hid (monthLen_none y (m := m) (.inl a))
    go_enter Tryd.func37, Tryd.ntmps37
    go_wp2
    go_ret
    exact ⟨ret_int HL.out.symm, rfl⟩
  · by_cases b : 12 < m
    · have HL := Lib.hid (monthLen_none y (m := m) (.inr b))
      go_enter Tryd.func37, Tryd.ntmps37
      go_wp2
      go_ret
      exact ⟨ret_int HL.out.symm, rfl⟩
    · by_cases c : m = 2
      · subst c
        by_cases l : leapP y
        · have HL := Lib.hid (month_feb l)
          have HB := Lib.hid (leapB_true l)
          clear l
          go_enter Tryd.func37, Tryd.ntmps37
          go_wp2_with (go_at_call 49; refine (leap_any _ _).mono ?_; rintro e w' ⟨rfl, rfl⟩; rw [HB.out])
          go_ret
          exact ⟨ret_int HL.out.symm, rfl⟩
        · have hc := HT.out.cell 1 (by omega)
          have HL := Lib.hid (month_at y 2 (by omega) (by omega) (fun h => l h.2))
          have HB := Lib.hid (leapB_false l)
          clear l
          go_enter Tryd.func37, Tryd.ntmps37
          go_wp2_with (go_at_call 49; refine (leap_any _ _).mono ?_; rintro e w' ⟨rfl, rfl⟩; rw [HB.out])
          go_ret
          exact ⟨ret_int HL.out, rfl⟩
      · have hc := HT.out.cell (m.toNat - 1) (by omega)
        have HL := Lib.hid (month_at y m (by omega) (by omega) (by omega))
        have c' : (m == 2) = false := by simpa using c
        have i0 : 0 ≤ m - 1 := by omega
        have i1 : m - 1 < 12 := by omega
        clear c
        go_enter Tryd.func37, Tryd.ntmps37
        go_wp2
        go_ret
        exact ⟨ret_int HL.out, rfl⟩

/-- The reference's own table. -/
def refLen (k : Nat) : Int := [0, 31, 28, 31, 30, 31, 30, 31, 31, 30, 31, 30, 31].getD k 0
theorem refMonth_at (y m : Int) (h1 : 1 ≤ m) (h2 : m ≤ 12) (hn : ¬ (m = 2 ∧ leapP y)) : refLen m.toNat = monthLen y m := by
  rcases month_cases h1 h2 with rfl | rfl | rfl | rfl | rfl | rfl | rfl | rfl | rfl | rfl | rfl | rfl <;> simp at hn <;> simp [monthLen, refLen, hn]
theorem ref_block (w : World) (T : TypeId) : ∃ w1, w.alloc (.cells #[.int .i64 0, .int .i64 31, .int .i64 28, .int .i64 31, .int .i64 30, .int .i64 31, .int .i64 30, .int .i64 31, .int .i64 31, .int .i64 30, .int .i64 31, .int .i64 30, .int .i64 31] T) = w1 ∧ Below w.heap.size w w1 ∧ ∀ k, k < 13 → w1.cell? ⟨w.heap.size, k, none⟩ = some (.int .i64 (refLen k)) := by
  refine ⟨_, rfl, (Below.refl _ _).alloc (Nat.le_refl _) _, fun k hk => ?_⟩
  rw [World.cell?_alloc_at _ _ _ _ rfl]
  match k, hk with
  | 0, _ => rfl
  | 1, _ => rfl
  | 2, _ => rfl
  | 3, _ => rfl
  | 4, _ => rfl
  | 5, _ => rfl
  | 6, _ => rfl
  | 7, _ => rfl
  | 8, _ => rfl
  | 9, _ => rfl
  | 10, _ => rfl
  | 11, _ => rfl
  | 12, _ => rfl
set_option maxHeartbeats 1000000 in
theorem refDays_any (y m : Int) (w : World) (h1 : -9223372036854775808 ≤ m) (h2 : m ≤ 9223372036854775807) :
    Calls Tryd.prog 47 #[.int .i64 y, .int .i64 m] w fun e w' => e = .returned (.int .i64 (monthLen y m)) ∧ Below w.heap.size w w' := by
  obtain ⟨w1, hw1, hb1, hz⟩ := ref_block w 99
  have HW := Lib.hid hw1
  have HB := Lib.hid hb1
  have HZ := Lib.hid hz
  clear hw1 hb1 hz
  by_cases a : m < 1
  · have HL := Lib.hid (monthLen_none y (m := m) (.inl a))
    go_enter Tryd.func47, Tryd.ntmps47
    go_wp2
    rw [HW.out]
    go_ret
    exact ⟨ret_int HL.out.symm, HB.out⟩
  · by_cases b : 12 < m
    · have HL := Lib.hid (monthLen_none y (m := m) (.inr b))
      go_enter Tryd.func47, Tryd.ntmps47
      go_wp2
      rw [HW.out]
      go_ret
      exact ⟨ret_int HL.out.symm, HB.out⟩
    · by_cases c : m = 2
      · subst c
        by_cases l : leapP y
        · have HL := Lib.hid (month_feb l)
          have HP := Lib.hid (leapB_true l)
          clear l
          go_enter Tryd.func47, Tryd.ntmps47
          go_wp2_with (go_at_call 60; rw [HW.out]; refine (refLeap_any _ _).mono ?_; rintro e w' ⟨rfl, rfl⟩; rw [HP.out])
          go_ret
          exact ⟨ret_int HL.out.symm, HB.out⟩
        · have hc := HZ.out 2 (by omega)
          have HL := Lib.hid (refMonth_at y 2 (by omega) (by omega) (fun h => l h.2))
          have HP := Lib.hid (leapB_false l)
          clear l
          go_enter Tryd.func47, Tryd.ntmps47
          go_wp2_with (go_at_call 60; rw [HW.out]; refine (refLeap_any _ _).mono ?_; rintro e w' ⟨rfl, rfl⟩; rw [HP.out])
          go_ret
          exact ⟨ret_int HL.out, HB.out⟩
      · have hc := HZ.out m.toNat (by omega)
        have HL := Lib.hid (refMonth_at y m (by omega) (by omega) (by omega))
        have c' : (m == 2) = false := by simpa using c
        have hc' := hc
        rw [← HW.out] at hc'
        clear c hc
        go_enter Tryd.func47, Tryd.ntmps47
        go_wp2
        go_ret
        exact ⟨ret_int HL.out, by rw [HW.out]; exact HB.out⟩
theorem refYear_any (y : Int) (w : World) : Calls Tryd.prog 46 #[.int .i64 y] w fun e w' => e = .returned (.int .i64 (yearLen y)) ∧ w = w' := by
  by_cases l : leapP y
  · have HL := Lib.hid (show yearLen y = 366 by unfold yearLen; rw [if_pos l])
    have HP := Lib.hid (leapB_true l)
    clear l
    go_enter Tryd.func46, Tryd.ntmps46
    go_wp2_with (go_at_call 60; refine (refLeap_any _ _).mono ?_; rintro e w' ⟨rfl, rfl⟩; rw [HP.out])
    go_ret
    exact ⟨ret_int HL.out.symm, rfl⟩
  · have HL := Lib.hid (show yearLen y = 365 by unfold yearLen; rw [if_neg l])
    have HP := Lib.hid (leapB_false l)
    clear l
    go_enter Tryd.func46, Tryd.ntmps46
    go_wp2_with (go_at_call 60; refine (refLeap_any _ _).mono ?_; rintro e w' ⟨rfl, rfl⟩; rw [HP.out])
    go_ret
    exact ⟨ret_int HL.out.symm, rfl⟩
def belowB (n b : Int) : Bool := decide (0 ≤ n ∧ n < b)
theorem belowB_iff {n b : Int} : belowB n b = true ↔ 0 ≤ n ∧ n < b := by simp [belowB]
theorem bounded_any (o : Int) (w : World) : Calls Tryd.prog 17 #[.int .i64 o] w fun e w' => e = .returned (.int .i64 (offB o)) ∧ w = w' := by
  by_cases h0 : o < -86400
  · have HL := Lib.hid (show offB o = -86400 by unfold offB; rw [if_pos h0])
    go_enter Tryd.func17, Tryd.ntmps17
    go_wp2
    go_ret
    exact ⟨ret_int HL.out.symm, rfl⟩
  · by_cases h1 : 86400 < o
    · have HL := Lib.hid (show offB o = 86400 by unfold offB; rw [if_neg h0, if_pos h1])
      go_enter Tryd.func17, Tryd.ntmps17
      go_wp2
      go_ret
      exact ⟨ret_int HL.out.symm, rfl⟩
    · have HL := Lib.hid (show offB o = o by unfold offB; rw [if_neg h0, if_neg h1])
      go_enter Tryd.func17, Tryd.ntmps17
      go_wp2
      go_ret
      exact ⟨ret_int HL.out.symm, rfl⟩
theorem ahead_any (y : Int) (w : World) (h0 : 0 ≤ y) (h1 : y ≤ 1000) : Calls Tryd.prog 27 #[.int .i64 y] w fun e w' => e = .returned (.int .i64 (aheadYear y)) ∧ w = w' := by
  go_enter Tryd.func27, Tryd.ntmps27
  go_wp2
  go_ret
  exact ⟨ret_int (by unfold aheadYear; rfl), rfl⟩
theorem aheadYear_bd (y : Int) (h0 : 0 ≤ y) (h1 : y ≤ 1000) : 0 ≤ aheadYear y ∧ aheadYear y ≤ 366000 := by unfold aheadYear; omega
theorem round_any (r : Int) (w : World) (h0 : 0 ≤ r) (h1 : r < 146097) : Calls Tryd.prog 25 #[.int .i64 r] w fun e w' => e = .returned (.int .i64 (yearIn r)) ∧ w = w' := by
  by_cases c : aheadYear (r / 366 + 1) ≤ r
  · have HL := Lib.hid (show yearIn r = r / 366 + 1 by unfold yearIn; rw [if_pos c])
    go_enter Tryd.func25, Tryd.ntmps25
    go_wp2_with (go_at_call 27; refine (ahead_any _ _ (by omega) (by omega)).mono ?_; rintro e w' ⟨rfl, rfl⟩)
    go_ret
    exact ⟨ret_int HL.out.symm, rfl⟩
  · have HL := Lib.hid (show yearIn r = r / 366 by unfold yearIn; rw [if_neg c])
    go_enter Tryd.func25, Tryd.ntmps25
    go_wp2_with (go_at_call 27; refine (ahead_any _ _ (by omega) (by omega)).mono ?_; rintro e w' ⟨rfl, rfl⟩)
    go_ret
    exact ⟨ret_int HL.out.symm, rfl⟩
end Go.Proofs.YtiegibgllnojcaaDoor
