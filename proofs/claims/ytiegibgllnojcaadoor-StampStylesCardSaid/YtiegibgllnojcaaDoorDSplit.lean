/-
  What date.split, date.weekday, date.monthOf and date.ahead return: quotient and rest below 0 too, the day of the week, the month and day of a day of the year, the days ahead of a month. Conditions: numbers are int64s, or nearer, as each says; the table of months lies as the text lays it.
-/
import Derived.Test.YtiegibgllnojcaaDoorDBase
import Derived.IntWalk
namespace Go.Proofs.YtiegibgllnojcaaDoor
open Go.RowKit

/-- The quotient and the rest as Go has them, in the quotient and the rest that aren't below 0. -/
theorem quo_rem (n p : Int) (hp : 2 ≤ p) : ∃ q r, Int.tdiv n p = q ∧ Int.tmod n p = r ∧ -p < r ∧ r < p ∧ (n ≤ 0 → n ≤ q ∧ q ≤ 0) ∧ (0 ≤ n → 0 ≤ q ∧ q ≤ n) ∧ (r < 0 → q - 1 = n / p ∧ r + p = n % p) ∧ (0 ≤ r → q = n / p ∧ r = n % p) := by
  refine ⟨_, _, rfl, rfl, ?_⟩
  have e := Int.mul_tdiv_add_tmod n p
  have hl : -p < Int.tmod n p := Int.lt_tmod_of_pos n (by omega)
  have hu : Int.tmod n p < p := Int.tmod_lt_of_pos n (by omega)
  have s1 : n ≤ 0 → Int.tmod n p ≤ 0 := fun h => by
    have := Int.tmod_nonneg (a := -n) p (by omega)
    rw [Int.neg_tmod] at this
    omega
  have s2 : 0 ≤ n → 0 ≤ Int.tmod n p := fun h => Int.tmod_nonneg p h
  generalize Int.tdiv n p = q at *
  generalize Int.tmod n p = r at *
  refine ⟨hl, hu, fun h => ?_, fun h => ?_, fun h => ?_, fun h => ?_⟩
  · have := s1 h
    constructor
    · apply Classical.byContradiction
      intro hn
      have : p * q ≤ 2 * q := Int.mul_le_mul_of_nonpos_right (by omega) (by omega)
      omega
    · apply Classical.byContradiction
      intro hn
      have : p * 1 ≤ p * q := Int.mul_le_mul_of_nonneg_left (by omega) (by omega)
      omega
  · have := s2 h
    constructor
    · apply Classical.byContradiction
      intro hn
      have : p * q ≤ p * (-1) := Int.mul_le_mul_of_nonneg_left (by omega) (by omega)
      omega
    · apply Classical.byContradiction
      intro hn
      have : 2 * q ≤ p * q := Int.mul_le_mul_of_nonneg_right (by omega) (by omega)
      omega
  · have := (Int.ediv_emod_unique (a := n) (r := r + p) (q := q - 1) (show 0 < p by omega)).2 ⟨by rw [Int.mul_sub]; omega, by omega, by omega⟩
    exact ⟨this.1.symm, this.2.symm⟩
  · have := (Int.ediv_emod_unique (a := n) (r := r) (q := q) (show 0 < p by omega)).2 ⟨by omega, by omega, by omega⟩
    exact ⟨this.1.symm, this.2.symm⟩

theorem ret_two {k l : IntKind} {a b c d : Int} (h : a = c) (h' : b = d) : Ending.returned (.tuple #[.int k a, .int l b]) = .returned (.tuple #[.int k c, .int l d]) := by rw [h, h']

theorem split_any (n p : Int) (w : World) (h1 : -9223372036854775808 ≤ n) (h2 : n ≤ 9223372036854775807) (hp : 2 ≤ p) (hp2 : p ≤ 1000000) :
    Calls Tryd.prog 16 #[.int .i64 n, .int .i64 p] w fun e w' => e = .returned (.tuple #[.int .i64 (n / p), .int .i64 (n % p)]) ∧ ∃ k, w' = w.drewN k := by
  obtain ⟨q, r, hq, hr, r1, r2, a, b, c, d⟩ := quo_rem n p hp
  have HC := Lib.hid c
  have HD := Lib.hid d
  have q1 : -9223372036854775808 ≤ q := by
    by_cases h : n ≤ 0
    · have := a h; omega
    · have := b (by omega); omega
  have q2 : q ≤ 9223372036854775807 := by
    by_cases h : n ≤ 0
    · have := a h; omega
    · have := b (by omega); omega
  clear a b c d
  have hw : IntKind.i64.wrap q = q := IntWalk.i64_in _ (by omega)
  have hw2 : IntKind.i64.wrap r = r := IntWalk.i64_in _ (by omega)
  have hz : (p == 0) = false := by simp; omega
  by_cases hn : r < 0
  · have q3 : -9223372036854775808 ≤ q - 1 := by
      have := (HC.out hn).1
      have : -9223372036854775808 ≤ n / p := by
        have := Int.ediv_le_ediv (show 0 < p by omega) h1
        have h3 : -9223372036854775808 ≤ -9223372036854775808 / p := by
          have := (Int.le_ediv_iff_mul_le (show 0 < p by omega) (a := -9223372036854775808) (b := -9223372036854775808)).2 (by omega)
          exact this
        omega
      omega
    go_enter Tryd.func16, Tryd.ntmps16
    go_wp2
    go_quiet (fail)
    clear hq hr hw hw2
    go_wp2
    go_ret2
    exact ⟨ret_two (HC.out hn).1 (HC.out hn).2, _, rfl⟩
  · go_enter Tryd.func16, Tryd.ntmps16
    go_wp2
    go_quiet (fail)
    clear hq hr hw hw2
    go_wp2
    go_ret2
    exact ⟨ret_two (HD.out (by omega)).1 (HD.out (by omega)).2, _, rfl⟩

theorem weekday_any (n : Int) (w : World) (h1 : -900000000000000000 ≤ n) (h2 : n ≤ 900000000000000000) :
    Calls Tryd.prog 26 #[.int .i64 n] w fun e w' => e = .returned (.int .i64 (weekday n)) ∧ ∃ k, w' = w.drewN k := by
  go_enter Tryd.func26, Tryd.ntmps26
  go_wp2_with fail
  refine (split_any _ _ _ (by omega) (by omega) (by omega) (by omega)).mono ?_
  rintro e w' ⟨rfl, k, rfl⟩
  go_wp2_with fail
  go_ret
  exact ⟨ret_int (by unfold weekday; omega), _, rfl⟩
end Go.Proofs.YtiegibgllnojcaaDoor
