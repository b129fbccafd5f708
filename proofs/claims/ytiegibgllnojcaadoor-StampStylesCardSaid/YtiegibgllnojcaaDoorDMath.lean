/-
  Plain facts on the Gregorian calendar: the days ahead of a year, and of a month; a day has just one date. Conditions: none.
-/
set_option linter.unusedVariables false
namespace Go.Proofs.YtiegibgllnojcaaDoor

/-- A year of 366 days? -/
def leapP (y : Int) : Prop := y % 4 = 0 ∧ (y % 100 ≠ 0 ∨ y % 400 = 0)
instance (y : Int) : Decidable (leapP y) := inferInstanceAs (Decidable (_ ∧ _))
def yearLen (y : Int) : Int := if leapP y then 366 else 365
/-- The days from January 1st, 1970, on to the beginning of a year. -/
def toYear (y : Int) : Int := 365 * (y - 1970) + (y - 1) / 4 - (y - 1) / 100 + (y - 1) / 400 - 477
theorem toYear_1970 : toYear 1970 = 0 := by decide
theorem toYear_next (y : Int) : toYear (y + 1) = toYear y + yearLen y := by
  unfold toYear yearLen
  by_cases h : leapP y
  · rw [if_pos h]; unfold leapP at h; omega
  · rw [if_neg h]; unfold leapP at h; omega
theorem yearLen_bd (y : Int) : 365 ≤ yearLen y ∧ yearLen y ≤ 366 := by
  unfold yearLen
  split <;> omega
theorem leap_400 (y c : Int) : leapP (y + 400 * c) ↔ leapP y := by
  unfold leapP
  omega
theorem yearLen_400 (y c : Int) : yearLen (y + 400 * c) = yearLen y := by
  unfold yearLen
  by_cases h : leapP y
  · rw [if_pos h, if_pos ((leap_400 y c).2 h)]
  · rw [if_neg h, if_neg (fun x => h ((leap_400 y c).1 x))]
theorem toYear_400 (y c : Int) : toYear (y + 400 * c) = toYear y + 146097 * c := by
  unfold toYear
  omega
theorem toYear_mono {a b : Int} (h : a ≤ b) : toYear a + 365 * (b - a) ≤ toYear b := by
  unfold toYear
  omega
/-- A day lies in one year alone. -/
theorem year_one {a b d : Int} (ha : toYear a ≤ d) (ha' : d < toYear (a + 1)) (hb : toYear b ≤ d) (hb' : d < toYear (b + 1)) : a = b := by
  apply Classical.byContradiction
  intro hn
  rcases Int.lt_or_gt_of_ne hn with h | h
  · have := toYear_mono (show a + 1 ≤ b by omega)
    omega
  · have := toYear_mono (show b + 1 ≤ a by omega)
    omega

/-- How many days a month has; 0 of no month. -/
def monthLen (y m : Int) : Int :=
  if m = 2 then (if leapP y then 29 else 28) else if m = 4 ∨ m = 6 ∨ m = 9 ∨ m = 11 then 30 else if 1 ≤ m ∧ m ≤ 12 then 31 else 0
/-- The days of a year ahead of a month (from 1 on; of 13: all). -/
def toMonth (y m : Int) : Int :=
  (if m ≤ 1 then 0 else if m = 2 then 31 else if m = 3 then 59 else if m = 4 then 90 else if m = 5 then 120 else if m = 6 then 151 else if m = 7 then 181 else if m = 8 then 212
   else if m = 9 then 243 else if m = 10 then 273 else if m = 11 then 304 else if m = 12 then 334 else 365) + (if leapP y ∧ 3 ≤ m then 1 else 0)
theorem month_cases {m : Int} (h1 : 1 ≤ m) (h2 : m ≤ 12) : m = 1 ∨ m = 2 ∨ m = 3 ∨ m = 4 ∨ m = 5 ∨ m = 6 ∨ m = 7 ∨ m = 8 ∨ m = 9 ∨ m = 10 ∨ m = 11 ∨ m = 12 := by omega
theorem toMonth_1 (y : Int) : toMonth y 1 = 0 := by unfold toMonth; simp
theorem toMonth_13 (y : Int) : toMonth y 13 = yearLen y := by
  unfold toMonth yearLen
  by_cases h : leapP y <;> simp [h]
theorem toMonth_next (y : Int) {m : Int} (h1 : 1 ≤ m) (h2 : m ≤ 12) : toMonth y (m + 1) = toMonth y m + monthLen y m := by
  by_cases h : leapP y
  · rcases month_cases h1 h2 with rfl | rfl | rfl | rfl | rfl | rfl | rfl | rfl | rfl | rfl | rfl | rfl <;> (unfold toMonth monthLen; simp [h])
  · rcases month_cases h1 h2 with rfl | rfl | rfl | rfl | rfl | rfl | rfl | rfl | rfl | rfl | rfl | rfl <;> (unfold toMonth monthLen; simp [h])
theorem monthLen_bd (y : Int) {m : Int} (h1 : 1 ≤ m) (h2 : m ≤ 12) : 28 ≤ monthLen y m ∧ monthLen y m ≤ 31 := by
  unfold monthLen
  by_cases h : leapP y
  · rcases month_cases h1 h2 with rfl | rfl | rfl | rfl | rfl | rfl | rfl | rfl | rfl | rfl | rfl | rfl <;> simp [h]
  · rcases month_cases h1 h2 with rfl | rfl | rfl | rfl | rfl | rfl | rfl | rfl | rfl | rfl | rfl | rfl <;> simp [h]
theorem monthLen_none (y : Int) {m : Int} (h : m < 1 ∨ 12 < m) : monthLen y m = 0 := by
  unfold monthLen
  rw [if_neg (by omega), if_neg (by omega), if_neg (by omega)]
theorem monthLen_400 (y c m : Int) : monthLen (y + 400 * c) m = monthLen y m := by
  unfold monthLen
  by_cases h : leapP y
  · simp [h, (leap_400 y c).2 h]
  · have h' : ¬ leapP (y + 400 * c) := fun x => h ((leap_400 y c).1 x)
    simp [h, h']
theorem toMonth_mono (y : Int) {a b : Int} (h1 : 1 ≤ a) (h : a < b) (h2 : b ≤ 13) : toMonth y a + 28 ≤ toMonth y b := by
  obtain ⟨n, hn⟩ : ∃ n : Nat, b = a + 1 + n := ⟨(b - a - 1).toNat, by omega⟩
  subst hn
  induction n with
  | zero =>
    have e := toMonth_next y h1 (show a ≤ 12 by omega)
    have := monthLen_bd y h1 (show a ≤ 12 by omega)
    rw [show a + 1 + ((0 : Nat) : Int) = a + 1 by omega]
    omega
  | succ n ih =>
    have i1 := ih (by omega) (by omega)
    have e := toMonth_next y (show 1 ≤ a + 1 + (n : Int) by omega) (show a + 1 + (n : Int) ≤ 12 by omega)
    have := monthLen_bd y (show 1 ≤ a + 1 + (n : Int) by omega) (show a + 1 + (n : Int) ≤ 12 by omega)
    rw [show a + 1 + ((n + 1 : Nat) : Int) = a + 1 + (n : Int) + 1 by omega]
    omega
/-- A day of a year lies in one month alone. -/
theorem month_one (y : Int) {a b d : Int} (a1 : 1 ≤ a) (a2 : a ≤ 12) (b1 : 1 ≤ b) (b2 : b ≤ 12) (ha : toMonth y a ≤ d) (ha' : d < toMonth y (a + 1)) (hb : toMonth y b ≤ d) (hb' : d < toMonth y (b + 1)) : a = b := by
  apply Classical.byContradiction
  intro hn
  rcases Int.lt_or_gt_of_ne hn with h | h
  · by_cases h2 : a + 1 = b
    · subst h2; omega
    · have := toMonth_mono y (show 1 ≤ a + 1 by omega) (show a + 1 < b by omega) (by omega)
      omega
  · by_cases h2 : b + 1 = a
    · subst h2; omega
    · have := toMonth_mono y (show 1 ≤ b + 1 by omega) (show b + 1 < a by omega) (by omega)
      omega

/-- The day (from January 1st, 1970, on) of which these are the year, month, day and day of the year. -/
structure IsDay (n y m d yd : Int) : Prop where
  year : toYear y ≤ n
  year' : n < toYear (y + 1)
  m1 : 1 ≤ m
  m2 : m ≤ 12
  month : toMonth y m ≤ n - toYear y
  month' : n - toYear y < toMonth y (m + 1)
  day : d = n - toYear y - toMonth y m + 1
  yday : yd = n - toYear y + 1
theorem IsDay.one {n y m d yd y' m' d' yd' : Int} (h : IsDay n y m d yd) (h' : IsDay n y' m' d' yd') : y = y' ∧ m = m' ∧ d = d' ∧ yd = yd' := by
  obtain rfl := year_one h.year h.year' h'.year h'.year'
  obtain rfl := month_one y h.m1 h.m2 h'.m1 h'.m2 h.month h.month' h'.month h'.month'
  exact ⟨rfl, rfl, by rw [h.day, h'.day], by rw [h.yday, h'.yday]⟩
theorem IsDay.back {n n' y m d yd : Int} (h : IsDay n y m d yd) (h' : IsDay n' y m d yd) : n = n' := by
  have := h.yday
  have := h'.yday
  omega
theorem IsDay.bounds {n y m d yd : Int} (h : IsDay n y m d yd) : 1 ≤ d ∧ d ≤ monthLen y m ∧ 1 ≤ yd ∧ yd ≤ yearLen y ∧ yd = toMonth y m + d := by
  have e := toMonth_next y h.m1 h.m2
  have e2 := toYear_next y
  have h1 := h.month
  have h2 := h.month'
  have h3 := h.day
  have h4 := h.yday
  have h5 := h.year
  have h6 := h.year'
  omega
/-- Each right month and day of a year is some day's. -/
theorem isDay_of (y : Int) {m d : Int} (h1 : 1 ≤ m) (h2 : m ≤ 12) (h3 : 1 ≤ d) (h4 : d ≤ monthLen y m) : IsDay (toYear y + toMonth y m + d - 1) y m d (toMonth y m + d) := by
  have e := toMonth_next y h1 h2
  have e2 := toYear_next y
  have hm : toMonth y (m + 1) ≤ yearLen y := by
    rw [← toMonth_13]
    by_cases h : m = 12
    · subst h; exact Int.le_refl _
    · have := toMonth_mono y (show 1 ≤ m + 1 by omega) (show m + 1 < 13 by omega) (by omega)
      omega
  have h0 : 0 ≤ toMonth y m := by
    by_cases h : m = 1
    · subst h; rw [toMonth_1]; exact Int.le_refl _
    · have := toMonth_mono y (show (1 : Int) ≤ 1 by omega) (show 1 < m by omega) (by omega)
      rw [toMonth_1] at this
      omega
  exact ⟨by omega, by omega, h1, h2, by omega, by omega, by omega, by omega⟩
theorem toMonth_400 (y c m : Int) : toMonth (y + 400 * c) m = toMonth y m := by
  unfold toMonth
  by_cases h : leapP y
  · simp [h, (leap_400 y c).2 h]
  · have h' : ¬ leapP (y + 400 * c) := fun x => h ((leap_400 y c).1 x)
    simp [h, h']
/-- 400 years later it is the same date. -/
theorem IsDay.cycles {n y m d yd : Int} (h : IsDay n y m d yd) (c : Int) : IsDay (n + 146097 * c) (y + 400 * c) m d yd := by
  have e1 := toYear_400 y c
  have e2 := toYear_400 (y + 1) c
  rw [show y + 1 + 400 * c = y + 400 * c + 1 by omega] at e2
  have := h.year
  have := h.year'
  exact ⟨by omega, by omega, h.m1, h.m2, by rw [toMonth_400, e1]; have := h.month; omega, by rw [toMonth_400, e1]; have := h.month'; omega, by rw [toMonth_400, e1]; have := h.day; omega, by rw [e1]; have := h.yday; omega⟩
/-- The day behind: the next of the month, the next month's first, or the next year's. -/
theorem IsDay.next {n y m d yd : Int} (h : IsDay n y m d yd) :
    (d < monthLen y m → IsDay (n + 1) y m (d + 1) (yd + 1)) ∧ (d = monthLen y m → m < 12 → IsDay (n + 1) y (m + 1) 1 (yd + 1)) ∧ (d = monthLen y m → m = 12 → IsDay (n + 1) (y + 1) 1 1 1) := by
  have e := toMonth_next y h.m1 h.m2
  have e2 := toYear_next y
  have b := h.bounds
  have h1 := h.month
  have h2 := h.month'
  have h3 := h.day
  have h4 := h.yday
  have h5 := h.year
  have h6 := h.year'
  have m1 := h.m1
  have m2 := h.m2
  refine ⟨fun hd => ?_, fun hd hm => ?_, fun hd hm => ?_⟩
  · have := isDay_of y h.m1 h.m2 (show 1 ≤ d + 1 by omega) (show d + 1 ≤ monthLen y m by omega)
    rw [show toYear y + toMonth y m + (d + 1) - 1 = n + 1 by omega, show toMonth y m + (d + 1) = yd + 1 by omega] at this
    exact this
  · have hb := monthLen_bd y (show 1 ≤ m + 1 by omega) (show m + 1 ≤ 12 by omega)
    have := isDay_of y (show 1 ≤ m + 1 by omega) (show m + 1 ≤ 12 by omega) (show (1 : Int) ≤ 1 by omega) (show 1 ≤ monthLen y (m + 1) by omega)
    rw [show toYear y + toMonth y (m + 1) + 1 - 1 = n + 1 by omega, show toMonth y (m + 1) + 1 = yd + 1 by omega] at this
    exact this
  · subst hm
    have e13 : toMonth y 13 = yearLen y := toMonth_13 y
    have e12 : toMonth y (12 + 1) = toMonth y 12 + monthLen y 12 := e
    rw [show (12 : Int) + 1 = 13 by decide] at e12
    have hb := monthLen_bd (y + 1) (show (1 : Int) ≤ 1 by omega) (show (1 : Int) ≤ 12 by omega)
    have := isDay_of (y + 1) (show (1 : Int) ≤ 1 by omega) (show (1 : Int) ≤ 12 by omega) (show (1 : Int) ≤ 1 by omega) (show 1 ≤ monthLen (y + 1) 1 by omega)
    rw [toMonth_1, show toYear (y + 1) + 0 + 1 - 1 = n + 1 by omega] at this
    exact this
/-- The day of the week: 0 Sunday. -/
def weekday (n : Int) : Int := (n + 4) % 7
theorem weekday_400 (n c : Int) : weekday (n + 146097 * c) = weekday n := by unfold weekday; omega
theorem weekday_next (n : Int) : weekday (n + 1) = (weekday n + 1) % 7 := by unfold weekday; omega
end Go.Proofs.YtiegibgllnojcaaDoor
