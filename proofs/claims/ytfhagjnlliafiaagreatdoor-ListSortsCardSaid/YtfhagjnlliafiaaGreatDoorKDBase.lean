/-
  Plain facts on the Gregorian calendar.
  Conditions: each fact's own.
-/
import Derived.Test.YtfhagjnlliafiaaGreatDoorRows
import Derived.WalkKit
import Derived.WalkSpells
import Derived.WalkLawsBesides
import Derived.Lib.Hide
import Derived.Lib.OthersKept
import Derived.Deep.QuietTactic
import Derived.BigQuiet
import Derived.Deep.WholeRow
set_option linter.unusedVariables false
namespace Go.Proofs.YtfhagjnlliafiaaGreatDoor.D
def leapP (y : Int) : Prop := y % 4 = 0 ∧ (y % 100 ≠ 0 ∨ y % 400 = 0)
instance (y : Int) : Decidable (leapP y) := inferInstanceAs (Decidable (_ ∧ _))
def yearLen (y : Int) : Int := if leapP y then 366 else 365
def toYear (y : Int) : Int := 365 * (y - 1970) + (y - 1) / 4 - (y - 1) / 100 + (y - 1) / 400 - 477
theorem toYear_next (y : Int) : toYear (y + 1) = toYear y + yearLen y := by
  unfold toYear yearLen
  by_cases h : leapP y
  · rw [if_pos h]; unfold leapP at h; omega
  · rw [if_neg h]; unfold leapP at h; omega
theorem yearLen_bd (y : Int) : 365 ≤ yearLen y ∧ yearLen y ≤ 366 := by
  unfold yearLen
  split <;> omega
theorem toYear_400 (y c : Int) : toYear (y + 400 * c) = toYear y + 146097 * c := by
  unfold toYear
  omega
theorem toYear_mono {a b : Int} (h : a ≤ b) : toYear a + 365 * (b - a) ≤ toYear b := by
  unfold toYear
  omega
theorem year_one {a b d : Int} (ha : toYear a ≤ d) (ha' : d < toYear (a + 1)) (hb : toYear b ≤ d) (hb' : d < toYear (b + 1)) : a = b := by
  apply Classical.byContradiction
  intro hn
  rcases Int.lt_or_gt_of_ne hn with h | h
  · have := toYear_mono (show a + 1 ≤ b by omega)
    omega
  · have := toYear_mono (show b + 1 ≤ a by omega)
    omega
def monthLen (y m : Int) : Int :=
  if m = 2 then (if leapP y then 29 else 28) else if m = 4 ∨ m = 6 ∨ m = 9 ∨ m = 11 then 30 else if 1 ≤ m ∧ m ≤ 12 then 31 else 0
def toMonth (y m : Int) : Int :=
  (if m ≤ 1 then 0 else if m = 2 then 31 else if m = 3 then 59 else if m = 4 then 90 else if m = 5 then 120 else if m = 6 then 151 else if m = 7 then 181 else if m = 8 then 212
   else if m = 9 then 243 else if m = 10 then 273 else if m = 11 then 304 else if m = 12 then 334 else 365) + (if leapP y ∧ 3 ≤ m then 1 else 0)
theorem month_cases {m : Int} (h1 : 1 ≤ m) (h2 : m ≤ 12) : m = 1 ∨ m = 2 ∨ m = 3 ∨ m = 4 ∨ m = 5 ∨ m = 6 ∨ m = 7 ∨ m = 8 ∨ m = 9 ∨ m = 10 ∨ m = 11 ∨ m = 12 := by omega
theorem toMonth_1 (y : Int) : toMonth y 1 = 0 := by unfold toMonth; simp
theorem toMonth_13 (y : Int) : toMonth y 13 = yearLen y := by
  unfold toMonth yearLen
  by_cases h : leapP y <;> simp [h]
theorem toMonth_next (y : Int) {m : Int} (h1 : 1 ≤ m) (h2 : m ≤ 12) : toMonth y (m + 1) = toMonth y m + monthLen y m := by
  by_cases h : leapP y
  · rcases month_cases h1 h2 with rfl | rfl | rfl | rfl | rfl | rfl | rfl | rfl | rfl | rfl | rfl | rfl <;> (unfold toMonth monthLen; simp [h])
  · rcases month_cases h1 h2 with rfl | rfl | rfl | rfl | rfl | rfl | rfl | rfl | rfl | rfl | rfl | rfl <;> (unfold toMonth monthLen; simp [h])
theorem monthLen_bd (y : Int) {m : Int} (h1 : 1 ≤ m) (h2 : m ≤ 12) : 28 ≤ monthLen y m ∧ monthLen y m ≤ 31 := by
  unfold monthLen
  by_cases h : leapP y
  · rcases month_cases h1 h2 with rfl | rfl | rfl | rfl | rfl | rfl | rfl | rfl | rfl | rfl | rfl | rfl <;> simp [h]
  · rcases month_cases h1 h2 with rfl | rfl | rfl | rfl | rfl | rfl | rfl | rfl | rfl | rfl | rfl | rfl <;> simp [h]
theorem monthLen_none (y : Int) {m : Int} (h : m < 1 ∨ 12 < m) : monthLen y m = 0 := by
  unfold monthLen
  rw [if_neg (by omega), if_neg (by omega), if_neg (by omega)]
theorem toMonth_mono (y : Int) {a b : Int} (h1 : 1 ≤ a) (h : a < b) (h2 : b ≤ 13) : toMonth y a + 28 ≤ toMonth y b := by
  obtain ⟨n, hn⟩ : ∃ n : Nat, b = a + 1 + n := ⟨(b - a - 1).toNat, by omega⟩
  subst hn
  induction n with
  | zero =>
    have e := toMonth_next y h1 (show a ≤ 12 by omega)
    have := monthLen_bd y h1 (show a ≤ 12 by omega)
    rw [show a + 1 + ((0 : Nat) : Int) = a + 1 by omega]
    omega
  | succ n ih =>
    have i1 := ih (by omega) (by omega)
    have e := toMonth_next y (show 1 ≤ a + 1 + (n : Int) by omega) (show a + 1 + (n : Int) ≤ 12 by omega)
    have := monthLen_bd y (show 1 ≤ a + 1 + (n : Int) by omega) (show a + 1 + (n : Int) ≤ 12 by omega)
    rw [show a + 1 + ((n + 1 : Nat) : Int) = a + 1 + (n : Int) + 1 by omega]
    omega
theorem month_one (y : Int) {a b d : Int} (a1 : 1 ≤ a) (a2 : a ≤ 12) (b1 : 1 ≤ b) (b2 : b ≤ 12) (ha : toMonth y a ≤ d) (ha' : d < toMonth y (a + 1)) (hb : toMonth y b ≤ d) (hb' : d < toMonth y (b + 1)) : a = b := by
  apply Classical.byContradiction
  intro hn
  rcases Int.lt_or_gt_of_ne hn with h | h
  · by_cases h2 : a + 1 = b
    · subst h2; omega
    · have := toMonth_mono y (show 1 ≤ a + 1 by omega) (show a + 1 < b by omega) (by omega)
      omega
  · by_cases h2 : b + 1 = a
    · subst h2; omega
    · have := toMonth_mono y (show 1 ≤ b + 1 by omega) (show b + 1 < a by omega) (by omega)
      omega
structure IsDay (n y m d yd : Int) : Prop where
  year : toYear y ≤ n
  year' : n < toYear (y + 1)
  m1 : 1 ≤ m
  m2 : m ≤ 12
  month : toMonth y m ≤ n - toYear y
  month' : n - toYear y < toMonth y (m + 1)
  day : d = n - toYear y - toMonth y m + 1
  yday : yd = n - toYear y + 1
theorem IsDay.one {n y m d yd y' m' d' yd' : Int} (h : IsDay n y m d yd) (h' : IsDay n y' m' d' yd') : y = y' ∧ m = m' ∧ d = d' ∧ yd = yd' := by
  obtain rfl := year_one h.year h.year' h'.year h'.year'
  obtain rfl := month_one y h.m1 h.m2 h'.m1 h'.m2 h.month h.month' h'.month h'.month'
  exact ⟨rfl, rfl, by rw [h.day, h'.day], by rw [h.yday, h'.yday]⟩
theorem IsDay.bounds {n y m d yd : Int} (h : IsDay n y m d yd) : 1 ≤ d ∧ d ≤ monthLen y m ∧ 1 ≤ yd ∧ yd ≤ yearLen y ∧ yd = toMonth y m + d := by
  have e := toMonth_next y h.m1 h.m2
  have e2 := toYear_next y
  have h1 := h.month
  have h2 := h.month'
  have h3 := h.day
  have h4 := h.yday
  have h5 := h.year
  have h6 := h.year'
  omega
theorem isDay_of (y : Int) {m d : Int} (h1 : 1 ≤ m) (h2 : m ≤ 12) (h3 : 1 ≤ d) (h4 : d ≤ monthLen y m) : IsDay (toYear y + toMonth y m + d - 1) y m d (toMonth y m + d) := by
  have e := toMonth_next y h1 h2
  have e2 := toYear_next y
  have hm : toMonth y (m + 1) ≤ yearLen y := by
    rw [← toMonth_13]
    by_cases h : m = 12
    · subst h; exact Int.le_refl _
    · have := toMonth_mono y (show 1 ≤ m + 1 by omega) (show m + 1 < 13 by omega) (by omega)
      omega
  have h0 : 0 ≤ toMonth y m := by
    by_cases h : m = 1
    · subst h; rw [toMonth_1]; exact Int.le_refl _
    · have := toMonth_mono y (show (1 : Int) ≤ 1 by omega) (show 1 < m by omega) (by omega)
      rw [toMonth_1] at this
      omega
  exact ⟨by omega, by omega, h1, h2, by omega, by omega, by omega, by omega⟩
theorem IsDay.next {n y m d yd : Int} (h : IsDay n y m d yd) :
    (d < monthLen y m → IsDay (n + 1) y m (d + 1) (yd + 1)) ∧ (d = monthLen y m → m < 12 → IsDay (n + 1) y (m + 1) 1 (yd + 1)) ∧ (d = monthLen y m → m = 12 → IsDay (n + 1) (y + 1) 1 1 1) := by
  have e := toMonth_next y h.m1 h.m2
  have e2 := toYear_next y
  have b := h.bounds
  have h1 := h.month
  have h2 := h.month'
  have h3 := h.day
  have h4 := h.yday
  have h5 := h.year
  have h6 := h.year'
  have m1 := h.m1
  have m2 := h.m2
  refine ⟨fun hd => ?_, fun hd hm => ?_, fun hd hm => ?_⟩
  · have := isDay_of y h.m1 h.m2 (show 1 ≤ d + 1 by omega) (show d + 1 ≤ monthLen y m by omega)
    rw [show toYear y + toMonth y m + (d + 1) - 1 = n + 1 by omega, show toMonth y m + (d + 1) = yd + 1 by omega] at this
    exact this
  · have hb := monthLen_bd y (show 1 ≤ m + 1 by omega) (show m + 1 ≤ 12 by omega)
    have := isDay_of y (show 1 ≤ m + 1 by omega) (show m + 1 ≤ 12 by omega) (show (1 : Int) ≤ 1 by omega) (show 1 ≤ monthLen y (m + 1) by omega)
    rw [show toYear y + toMonth y (m + 1) + 1 - 1 = n + 1 by omega, show toMonth y (m + 1) + 1 = yd + 1 by omega] at this
    exact this
  · subst hm
    have e13 : toMonth y 13 = yearLen y := toMonth_13 y
    have e12 : toMonth y (12 + 1) = toMonth y 12 + monthLen y 12 := e
    rw [show (12 : Int) + 1 = 13 by decide] at e12
    have hb := monthLen_bd (y + 1) (show (1 : Int) ≤ 1 by omega) (show (1 : Int) ≤ 12 by omega)
    have := isDay_of (y + 1) (show (1 : Int) ≤ 1 by omega) (show (1 : Int) ≤ 12 by omega) (show (1 : Int) ≤ 1 by omega) (show 1 ≤ monthLen (y + 1) 1 by omega)
    rw [toMonth_1, show toYear (y + 1) + 0 + 1 - 1 = n + 1 by omega] at this
    exact this
def weekday (n : Int) : Int := (n + 4) % 7
end Go.Proofs.YtfhagjnlliafiaaGreatDoor.D
namespace Go.Proofs.YtfhagjnlliafiaaGreatDoor.D
def aheadYear (y : Int) : Int := y * 365 + (y + 3) / 4 - (y + 99) / 100 + (y + 399) / 400
theorem toYear_ahead (y : Int) : toYear y = aheadYear y - 719528 := by
  unfold toYear aheadYear
  omega
def yearIn (r : Int) : Int := if aheadYear (r / 366 + 1) ≤ r then r / 366 + 1 else r / 366
theorem yearIn_ok (r : Int) (h0 : 0 ≤ r) (h1 : r < 146097) : aheadYear (yearIn r) ≤ r ∧ r < aheadYear (yearIn r + 1) ∧ 0 ≤ yearIn r ∧ yearIn r ≤ 399 := by
  unfold yearIn
  split
  · rename_i h
    have h2 : r < aheadYear (r / 366 + 1 + 1) := by unfold aheadYear; omega
    refine ⟨h, h2, by omega, ?_⟩
    apply Classical.byContradiction
    intro hn
    have : r / 366 = 399 := by omega
    rw [this] at h
    have : aheadYear (399 + 1) = 146097 := by decide
    omega
  · rename_i h
    have h2 : aheadYear (r / 366) ≤ r := by unfold aheadYear; omega
    exact ⟨h2, by omega, by omega, by omega⟩
def yearOf (n : Int) : Int := (n + 719528) / 146097 * 400 + yearIn ((n + 719528) % 146097)
def ydayOf (n : Int) : Int := (n + 719528) % 146097 - aheadYear (yearIn ((n + 719528) % 146097)) + 1
def monthIn (y d : Int) : Int :=
  if d ≤ toMonth y 2 then 1 else if d ≤ toMonth y 3 then 2 else if d ≤ toMonth y 4 then 3 else if d ≤ toMonth y 5 then 4 else if d ≤ toMonth y 6 then 5 else if d ≤ toMonth y 7 then 6
  else if d ≤ toMonth y 8 then 7 else if d ≤ toMonth y 9 then 8 else if d ≤ toMonth y 10 then 9 else if d ≤ toMonth y 11 then 10 else if d ≤ toMonth y 12 then 11 else 12
theorem monthIn_ok (y d : Int) (h1 : 1 ≤ d) (h2 : d ≤ yearLen y) : 1 ≤ monthIn y d ∧ monthIn y d ≤ 12 ∧ toMonth y (monthIn y d) < d ∧ d ≤ toMonth y (monthIn y d + 1) := by
  have e1 := toMonth_1 y
  have e13 := toMonth_13 y
  unfold monthIn
  repeat' split
  all_goals (first | (refine ⟨by decide, by decide, ?_, ?_⟩ <;> (try simp only [show (1 : Int) + 1 = 2 by decide, show (2 : Int) + 1 = 3 by decide, show (3 : Int) + 1 = 4 by decide, show (4 : Int) + 1 = 5 by decide, show (5 : Int) + 1 = 6 by decide, show (6 : Int) + 1 = 7 by decide, show (7 : Int) + 1 = 8 by decide, show (8 : Int) + 1 = 9 by decide, show (9 : Int) + 1 = 10 by decide, show (10 : Int) + 1 = 11 by decide, show (11 : Int) + 1 = 12 by decide, show (12 : Int) + 1 = 13 by decide]) <;> omega))
def monOf (n : Int) : Int := monthIn (yearOf n) (ydayOf n)
def mdayOf (n : Int) : Int := ydayOf n - toMonth (yearOf n) (monOf n)
theorem yearOf_toYear (n : Int) : toYear (yearOf n) ≤ n ∧ n < toYear (yearOf n + 1) ∧ ydayOf n = n - toYear (yearOf n) + 1 := by
  have m0 : 0 ≤ (n + 719528) % 146097 := by omega
  have m1 : (n + 719528) % 146097 < 146097 := by omega
  have e : (n + 719528) / 146097 * 146097 + (n + 719528) % 146097 = n + 719528 := by omega
  unfold yearOf ydayOf
  generalize (n + 719528) / 146097 = c at *
  generalize (n + 719528) % 146097 = r at *
  obtain ⟨a, b, _, _⟩ := yearIn_ok r m0 m1
  have e1 := toYear_400 (yearIn r) c
  have e2 := toYear_400 (yearIn r + 1) c
  have f1 := toYear_ahead (yearIn r)
  have f2 := toYear_ahead (yearIn r + 1)
  rw [show c * 400 + yearIn r + 1 = yearIn r + 1 + 400 * c by omega, show c * 400 + yearIn r = yearIn r + 400 * c by omega, e1, e2]
  omega
theorem isDay (n : Int) : IsDay n (yearOf n) (monOf n) (mdayOf n) (ydayOf n) := by
  obtain ⟨a, b, c⟩ := yearOf_toYear n
  have hy := toYear_next (yearOf n)
  obtain ⟨m1, m2, m3, m4⟩ := monthIn_ok (yearOf n) (ydayOf n) (by omega) (by omega)
  change 1 ≤ monOf n at m1
  change monOf n ≤ 12 at m2
  change toMonth (yearOf n) (monOf n) < ydayOf n at m3
  change ydayOf n ≤ toMonth (yearOf n) (monOf n + 1) at m4
  refine ⟨a, b, m1, m2, by omega, by omega, ?_, c⟩
  unfold mdayOf
  omega
theorem yearOf_bd (n : Int) (h1 : -110000000000000 ≤ n) (h2 : n ≤ 110000000000000) : -302000000000 ≤ yearOf n ∧ yearOf n ≤ 302000000000 := by
  have m0 : 0 ≤ (n + 719528) % 146097 := by omega
  have m1 : (n + 719528) % 146097 < 146097 := by omega
  obtain ⟨_, _, c, d⟩ := yearIn_ok _ m0 m1
  unfold yearOf
  omega
theorem ydayOf_bd (n : Int) : 1 ≤ ydayOf n ∧ ydayOf n ≤ 366 := by
  have := (isDay n).bounds
  have := yearLen_bd (yearOf n)
  omega
theorem monOf_bd (n : Int) : 1 ≤ monOf n ∧ monOf n ≤ 12 := ⟨(isDay n).m1, (isDay n).m2⟩
theorem mdayOf_bd (n : Int) : 1 ≤ mdayOf n ∧ mdayOf n ≤ 31 := by
  have h := (isDay n).bounds
  have := monthLen_bd (yearOf n) (isDay n).m1 (isDay n).m2
  omega
theorem weekday_bd (n : Int) : 0 ≤ weekday n ∧ weekday n ≤ 6 := by unfold weekday; omega
def offB (o : Int) : Int := if o < -86400 then -86400 else if 86400 < o then 86400 else o
theorem offB_bd (o : Int) : -86400 ≤ offB o ∧ offB o ≤ 86400 := by
  unfold offB
  split
  · omega
  · split <;> omega
end Go.Proofs.YtfhagjnlliafiaaGreatDoor.D
namespace Go.Proofs.YtfhagjnlliafiaaGreatDoor.D
open Go.RowKit
theorem ret_int {k : IntKind} {a b : Int} (h : a = b) : Ending.returned (.int k a) = .returned (.int k b) := by rw [h]
theorem ret_bool {a b : Bool} (h : a = b) : Ending.returned (.bool a) = .returned (.bool b) := by rw [h]
theorem below_two {w a b : World} (h : Below w.heap.size w a) (k : Below a.heap.size a b) : Below w.heap.size w b := h.trans (k.mono h.size)
theorem cell_lt {w : World} {a : Addr} {v : Value} (h : w.cell? a = some v) : a.block < w.heap.size := by
  apply Classical.byContradiction
  intro hn
  have : w.heap[a.block]? = none := Array.getElem?_eq_none (by omega)
  unfold World.cell? at h
  simp [this] at h
def lenAt (k : Nat) : Int := [31, 28, 31, 30, 31, 30, 31, 31, 30, 31, 30, 31].getD k 0
structure Tab (w : World) : Prop where
  cell : ∀ k, k < 12 → w.cell? ⟨8, k, none⟩ = some (.int .i64 (lenAt k))
theorem Tab.keep {w w' : World} (h : Tab w) (hb : Below w.heap.size w w') : Tab w' :=
  ⟨fun k hk => by rw [hb.cell (p := ⟨8, k, none⟩) (cell_lt (h.cell k hk))]; exact h.cell k hk⟩
def leapB (y : Int) : Bool := decide (leapP y)
theorem leapB_true {y : Int} (h : leapP y) : leapB y = true := by simpa [leapB] using h
theorem leapB_false {y : Int} (h : ¬ leapP y) : leapB y = false := by simpa [leapB] using h
theorem tmod0 (y k : Int) : Int.tmod y k = 0 ↔ y % k = 0 := by
  rw [← Int.dvd_iff_tmod_eq_zero, ← Int.dvd_iff_emod_eq_zero]
theorem tm_true {y k : Int} (h : y % k = 0) : (Int.tmod y k == 0) = true := by simpa using (tmod0 y k).2 h
theorem tm_false {y k : Int} (h : ¬ y % k = 0) : (Int.tmod y k == 0) = false := by simpa using fun x => h ((tmod0 y k).1 x)
theorem tn_true {y k : Int} (h : ¬ y % k = 0) : (Int.tmod y k != 0) = true := by simpa using fun x => h ((tmod0 y k).1 x)
theorem tn_false {y k : Int} (h : y % k = 0) : (Int.tmod y k != 0) = false := by simpa using (tmod0 y k).2 h
theorem leap_any (y : Int) (w : World) : Calls Tryz.prog 205 #[.int .i64 y] w fun e w' => e = .returned (.bool (leapB y)) ∧ w = w' := by
  by_cases h4 : y % 4 = 0
  · have c4 := tm_true h4
    by_cases h1 : y % 100 = 0
    · have c1 := tn_false h1
      by_cases h0 : y % 400 = 0
      · have c0 := tm_true h0
        have HL := Lib.hid (leapB_true (y := y) ⟨h4, .inr h0⟩)
        clear h4 h1 h0
        go_enter Tryz.func205, Tryz.ntmps205
        go_wp2
        go_ret
        exact ⟨ret_bool HL.out.symm, rfl⟩
      · have c0 := tm_false h0
        have HL := Lib.hid (leapB_false (y := y) (by unfold leapP; omega))
        clear h4 h1 h0
        go_enter Tryz.func205, Tryz.ntmps205
        go_wp2
        go_ret
        exact ⟨ret_bool HL.out.symm, rfl⟩
    · have c1 := tn_true h1
      have HL := Lib.hid (leapB_true (y := y) ⟨h4, .inl h1⟩)
      clear h4 h1
      go_enter Tryz.func205, Tryz.ntmps205
      go_wp2
      go_ret
      exact ⟨ret_bool HL.out.symm, rfl⟩
  · have c4 := tm_false h4
    have HL := Lib.hid (leapB_false (y := y) (by unfold leapP; omega))
    clear h4
    go_enter Tryz.func205, Tryz.ntmps205
    go_wp2
    go_ret
    exact ⟨ret_bool HL.out.symm, rfl⟩
theorem month_at (y m : Int) (h1 : 1 ≤ m) (h2 : m ≤ 12) (hn : ¬ (m = 2 ∧ leapP y)) : lenAt (m.toNat - 1) = monthLen y m := by
  rcases month_cases h1 h2 with rfl | rfl | rfl | rfl | rfl | rfl | rfl | rfl | rfl | rfl | rfl | rfl <;> simp at hn <;> simp [monthLen, lenAt, hn]
theorem month_feb {y : Int} (h : leapP y) : monthLen y 2 = 29 := by simp [monthLen, h]
theorem days_any (y m : Int) (w : World) (h1 : -9223372036854775808 ≤ m) (h2 : m ≤ 9223372036854775807) (ht : Tab w) :
    Calls Tryz.prog 199 #[.int .i64 y, .int .i64 m] w fun e w' => e = .returned (.int .i64 (monthLen y m)) ∧ w = w' := by
  have HT := Lib.hid ht
  clear ht
  by_cases a : m < 1
  · have HL := Lib.hid (monthLen_none y (m := m) (.inl a))
    go_enter Tryz.func199, Tryz.ntmps199
    go_wp2
    go_ret
    exact ⟨ret_int HL.out.symm, rfl⟩
  · by_cases b : 12 < m
    · have HL := Lib.hid (monthLen_none y (m := m) (.inr b))
      go_enter Tryz.func199, Tryz.ntmps199
      go_wp2
      go_ret
      exact ⟨ret_int HL.out.symm, rfl⟩
    · by_cases c : m = 2
      · subst c
        by_cases l : leapP y
        · have HL := Lib.hid (month_feb l)
          have HB := Lib.hid (leapB_true l)
          clear l
          go_enter Tryz.func199, Tryz.ntmps199
          go_wp2_with (go_at_call 205; refine (leap_any _ _).mono ?_; rintro e w' ⟨rfl, rfl⟩; rw [HB.out])
          go_ret
          exact ⟨ret_int HL.out.symm, rfl⟩
        · have hc := HT.out.cell 1 (by omega)
          have HL := Lib.hid (month_at y 2 (by omega) (by omega) (fun h => l h.2))
          have HB := Lib.hid (leapB_false l)
          clear l
          go_enter Tryz.func199, Tryz.ntmps199
          go_wp2_with (go_at_call 205; refine (leap_any _ _).mono ?_; rintro e w' ⟨rfl, rfl⟩; rw [HB.out])
          go_ret
          exact ⟨ret_int HL.out, rfl⟩
      · have hc := HT.out.cell (m.toNat - 1) (by omega)
        have HL := Lib.hid (month_at y m (by omega) (by omega) (by omega))
        have c' : (m == 2) = false := by simpa using c
        have i0 : 0 ≤ m - 1 := by omega
        have i1 : m - 1 < 12 := by omega
        clear c
        go_enter Tryz.func199, Tryz.ntmps199
        go_wp2
        go_ret
        exact ⟨ret_int HL.out, rfl⟩
theorem bounded_any (o : Int) (w : World) : Calls Tryz.prog 158 #[.int .i64 o] w fun e w' => e = .returned (.int .i64 (offB o)) ∧ w = w' := by
  by_cases h0 : o < -86400
  · have HL := Lib.hid (show offB o = -86400 by unfold offB; rw [if_pos h0])
    go_enter Tryz.func158, Tryz.ntmps158
    go_wp2
    go_ret
    exact ⟨ret_int HL.out.symm, rfl⟩
  · by_cases h1 : 86400 < o
    · have HL := Lib.hid (show offB o = 86400 by unfold offB; rw [if_neg h0, if_pos h1])
      go_enter Tryz.func158, Tryz.ntmps158
      go_wp2
      go_ret
      exact ⟨ret_int HL.out.symm, rfl⟩
    · have HL := Lib.hid (show offB o = o by unfold offB; rw [if_neg h0, if_neg h1])
      go_enter Tryz.func158, Tryz.ntmps158
      go_wp2
      go_ret
      exact ⟨ret_int HL.out.symm, rfl⟩
theorem ahead_any (y : Int) (w : World) (h0 : 0 ≤ y) (h1 : y ≤ 1000) : Calls Tryz.prog 185 #[.int .i64 y] w fun e w' => e = .returned (.int .i64 (aheadYear y)) ∧ w = w' := by
  go_enter Tryz.func185, Tryz.ntmps185
  go_wp2
  go_ret
  exact ⟨ret_int (by unfold aheadYear; rfl), rfl⟩
theorem aheadYear_bd (y : Int) (h0 : 0 ≤ y) (h1 : y ≤ 1000) : 0 ≤ aheadYear y ∧ aheadYear y ≤ 366000 := by unfold aheadYear; omega
theorem round_any (r : Int) (w : World) (h0 : 0 ≤ r) (h1 : r < 146097) : Calls Tryz.prog 183 #[.int .i64 r] w fun e w' => e = .returned (.int .i64 (yearIn r)) ∧ w = w' := by
  by_cases c : aheadYear (r / 366 + 1) ≤ r
  · have HL := Lib.hid (show yearIn r = r / 366 + 1 by unfold yearIn; rw [if_pos c])
    go_enter Tryz.func183, Tryz.ntmps183
    go_wp2_with (go_at_call 185; refine (ahead_any _ _ (by omega) (by omega)).mono ?_; rintro e w' ⟨rfl, rfl⟩)
    go_ret
    exact ⟨ret_int HL.out.symm, rfl⟩
  · have HL := Lib.hid (show yearIn r = r / 366 by unfold yearIn; rw [if_neg c])
    go_enter Tryz.func183, Tryz.ntmps183
    go_wp2_with (go_at_call 185; refine (ahead_any _ _ (by omega) (by omega)).mono ?_; rintro e w' ⟨rfl, rfl⟩)
    go_ret
    exact ⟨ret_int HL.out.symm, rfl⟩
end Go.Proofs.YtfhagjnlliafiaaGreatDoor.D
