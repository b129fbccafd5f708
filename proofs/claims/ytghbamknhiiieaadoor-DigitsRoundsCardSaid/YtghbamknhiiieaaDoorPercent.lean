/-
  What digits.Percent and the reference's Percent return: the hundredfold by the whole, rounded up and cut. Conditions: the arguments are int64s.
-/
import Derived.Test.YtghbamknhiiieaaDoorDiv
namespace Go.Proofs.YtghbamknhiiieaaDoor
open Go.RowKit

/-- A hundred times n by d, rounded up, cut to the greatest int64. -/
def pctZ (n d : Int) : Int :=
  if n < 1 ∨ d < 1 then 0 else if 9223372036854775807 ≤ 100 * n / d then 9223372036854775807 else if 0 < 100 * n % d then 100 * n / d + 1 else 100 * n / d

def pctPost (n d : Int) (w : World) (e : Ending) (w' : World) : Prop := e = .returned (.int .i64 (pctZ n d)) ∧ ∃ k, w' = w.drewN k

set_option maxHeartbeats 400000 in
theorem div_zero (lo y : Int) (w : World) (h1 : 1 ≤ y) (h3 : y ≤ 18446744073709551615) (h0 : 0 ≤ lo) (h4 : lo ≤ 18446744073709551615) :
    Calls Tryd.prog 31 #[.int .u64 0, .int .u64 lo, .int .u64 y] w fun e w' => e = .returned (.tuple #[.int .u64 (lo / y), .int .u64 (lo % y)]) ∧ ∃ k, w' = w.drewN k := by
  have y0 : (y == 0) = false := beq_eq_false_iff_ne.2 (by omega)
  have q1 : lo / y ≤ lo := Int.ediv_le_self _ (by omega)
  have q0 : 0 ≤ lo / y := Int.ediv_nonneg (by omega) (by omega)
  go_enter Tryd.func31, Tryd.ntmps31
  go_wp2
  go_quiet (fail)
  go_wp2
  go_ret2
  exact ⟨rfl, _, rfl⟩

/-- The quotient and the rest by y, for any upper half below y. -/
def divPostZ (hi lo y : Int) (w : World) (e : Ending) (w' : World) : Prop :=
  ∃ q r : Int, Hid (q = (hi * 18446744073709551616 + lo) / y) ∧ Hid (r = (hi * 18446744073709551616 + lo) % y) ∧ 0 ≤ q ∧ 0 ≤ r ∧ e = .returned (.tuple #[.int .u64 q, .int .u64 r]) ∧ ∃ k, w' = w.drewN k

theorem div_all (hi lo y : Int) (w : World) (h0 : 0 ≤ hi) (h1 : hi < y) (h2 : y ≤ 18446744073709551615) (h3 : 0 ≤ lo) (h4 : lo ≤ 18446744073709551615) :
    Calls Tryd.prog 31 #[.int .u64 hi, .int .u64 lo, .int .u64 y] w (divPostZ hi lo y w) := by
  by_cases hz : hi = 0
  · subst hz
    refine (div_zero lo y w (by omega) h2 h3 h4).mono ?_
    rintro e w' ⟨rfl, k, rfl⟩
    refine ⟨lo / y, lo % y, Lib.hid (by simp), Lib.hid (by simp), Int.ediv_nonneg h3 (by omega), Int.emod_nonneg _ (by omega), rfl, k, rfl⟩
  · obtain ⟨a, rfl⟩ := Int.eq_ofNat_of_zero_le h0
    obtain ⟨b, rfl⟩ := Int.eq_ofNat_of_zero_le h3
    obtain ⟨c, rfl⟩ := Int.eq_ofNat_of_zero_le (show 0 ≤ y by omega)
    refine (div_any a b c w (by omega) (by omega) (by omega) (by omega)).mono ?_
    rintro e w' ⟨rfl, rfl⟩
    refine ⟨_, _, Lib.hid ?_, Lib.hid ?_, Int.natCast_nonneg _, Int.natCast_nonneg _, rfl, 0, rfl⟩
    · simp
    · simp

def mulPost (x y : Int) (w : World) (e : Ending) (w' : World) : Prop :=
  ∃ h l : Int, Hid (h * 18446744073709551616 + l = x * y) ∧ 0 ≤ h ∧ h ≤ 18446744073709551615 ∧ 0 ≤ l ∧ l ≤ 18446744073709551615 ∧ e = .returned (.tuple #[.int .u64 h, .int .u64 l]) ∧ w = w'

theorem mul_all (x y : Int) (w : World) (h0 : 0 ≤ x) (h1 : x ≤ 18446744073709551615) (h2 : 0 ≤ y) (h3 : y ≤ 18446744073709551615) :
    Calls Tryd.prog 30 #[.int .u64 x, .int .u64 y] w (mulPost x y w) := by
  obtain ⟨a, rfl⟩ := Int.eq_ofNat_of_zero_le h0
  obtain ⟨b, rfl⟩ := Int.eq_ofNat_of_zero_le h2
  refine (Tryd.bits_Mul64 a b (by omega) (by omega) w).mono ?_
  rintro e w' ⟨rfl, rfl⟩
  have hm : a * b ≤ 18446744073709551615 * 18446744073709551615 := Nat.mul_le_mul (by omega) (by omega)
  refine ⟨_, _, Lib.hid ?_, Int.natCast_nonneg _, ?_, Int.natCast_nonneg _, ?_, rfl, rfl⟩
  · have e : ((a * b : Nat) : Int) = (a : Int) * (b : Int) := Int.natCast_mul _ _
    rw [← e]; generalize a * b = c at *; omega
  · generalize a * b = c at *; omega
  · generalize a * b = c at *; omega

set_option maxHeartbeats 1000000 in
theorem percent_any (n d : Int) (w : World) (h1 : -9223372036854775808 ≤ n) (h2 : n ≤ 9223372036854775807) (h3 : -9223372036854775808 ≤ d) (h4 : d ≤ 9223372036854775807) :
    Calls Tryd.prog 22 #[.int .i64 n, .int .i64 d] w (pctPost n d w) := by
  by_cases hn : n < 1
  · go_enter Tryd.func22, Tryd.ntmps22
    go_wp2
    go_ret
    exact ⟨ret_int (by rw [pctZ, if_pos (.inl hn)]), 0, rfl⟩
  · by_cases hd : d < 1
    · go_enter Tryd.func22, Tryd.ntmps22
      go_wp2
      go_ret
      exact ⟨ret_int (by rw [pctZ, if_pos (.inr hd)]), 0, rfl⟩
    · go_enter Tryd.func22, Tryd.ntmps22
      go_wp2_with fail
      refine (mul_all _ _ _ (by omega) (by omega) (by omega) (by omega)).mono ?_
      rintro e w' ⟨h, l, hm, k1, k2, k3, k4, rfl, rfl⟩
      by_cases c1 : d ≤ h
      · go_wp2_with fail
        go_ret
        refine ⟨ret_int ?_, 0, rfl⟩
        have := hm.out
        have g : 9223372036854775807 ≤ 100 * n / d := Int.le_ediv_of_mul_le (by omega) (by omega)
        rw [pctZ, if_neg (by omega), if_pos g]
      · go_wp2_with fail
        refine (div_all _ _ _ _ (by omega) (by omega) (by omega) (by omega) (by omega)).mono ?_
        rintro e w' ⟨q, r, hq, hr, q0, r0, rfl, k, rfl⟩
        have hq' := Lib.hid (show q = 100 * n / d by rw [hq.out, hm.out, Int.mul_comm])
        have hr' := Lib.hid (show r = 100 * n % d by rw [hr.out, hm.out, Int.mul_comm])
        clear hq hr hm
        by_cases c2 : 9223372036854775807 ≤ q
        · go_wp2_with fail
          go_ret
          exact ⟨ret_int (by rw [pctZ, if_neg (by omega), if_pos (by rw [← hq'.out]; exact c2)]), _, rfl⟩
        · by_cases c3 : 0 < r
          · go_wp2_with fail
            go_ret
            exact ⟨ret_int (by rw [pctZ, if_neg (by omega), ← hq'.out, ← hr'.out, if_neg (by omega), if_pos c3]), _, rfl⟩
          · go_wp2_with fail
            go_ret
            exact ⟨ret_int (by rw [pctZ, if_neg (by omega), ← hq'.out, ← hr'.out, if_neg (by omega), if_neg (by omega)]), _, rfl⟩

theorem step_no {a n d : Int} (hd : 1 ≤ d) (h : a % d + n % d < d) : (a + n) / d = a / d + n / d ∧ (a + n) % d = a % d + n % d := by
  have e1 := Int.emod_add_mul_ediv a d
  have e2 := Int.emod_add_mul_ediv n d
  have m1 := Int.emod_nonneg a (show d ≠ 0 by omega)
  have m2 := Int.emod_nonneg n (show d ≠ 0 by omega)
  refine (Int.ediv_emod_unique (show 0 < d by omega)).2 ⟨?_, by omega, by omega⟩
  rw [Int.mul_add]; omega

theorem step_yes {a n d : Int} (hd : 1 ≤ d) (h : d ≤ a % d + n % d) : (a + n) / d = a / d + n / d + 1 ∧ (a + n) % d = a % d + n % d - d := by
  have e1 := Int.emod_add_mul_ediv a d
  have e2 := Int.emod_add_mul_ediv n d
  have m1 := Int.emod_lt_of_pos a (show 0 < d by omega)
  have m2 := Int.emod_lt_of_pos n (show 0 < d by omega)
  refine (Int.ediv_emod_unique (show 0 < d by omega)).2 ⟨?_, by omega, by omega⟩
  rw [Int.mul_add, Int.mul_add]; omega

theorem early {n d k : Int} (hn : 1 ≤ n) (hd : 1 ≤ d) (hk : k ≤ 100) (h : 9223372036854775807 < k * n / d) : 9223372036854775807 = pctZ n d := by
  have : k * n ≤ 100 * n := Int.mul_le_mul_of_nonneg_right hk (by omega)
  have := Int.ediv_le_ediv (show 0 < d by omega) this
  rw [pctZ, if_neg (by omega), if_pos (by omega)]

theorem pct_last {n d q r x : Int} (hn : 1 ≤ n) (hd : 1 ≤ d) (a1 : q ≤ 9223372036854775807) (hq : q = 100 * n / d) (hr : r = 100 * n % d) (hx : (0 < r ∧ x = q + 1) ∨ (r ≤ 0 ∧ x = q)) : min x 9223372036854775807 = pctZ n d := by
  rw [pctZ, if_neg (by omega), ← hq, ← hr]
  rcases hx with ⟨h, rfl⟩ | ⟨h, rfl⟩
  · by_cases c : 9223372036854775807 ≤ q
    · rw [if_pos c]; omega
    · rw [if_neg c, if_pos h]; omega
  · by_cases c : 9223372036854775807 ≤ x
    · rw [if_pos c]; omega
    · rw [if_neg c, if_neg (by omega)]; omega

set_option maxHeartbeats 1000000 in
theorem refPercent_any (n d : Int) (w : World) (h1 : -9223372036854775808 ≤ n) (h2 : n ≤ 9223372036854775807) (h3 : -9223372036854775808 ≤ d) (h4 : d ≤ 9223372036854775807) :
    Calls Tryd.prog 23 #[.int .i64 n, .int .i64 d] w (pctPost n d w) := by
  by_cases hn : n < 1
  · go_enter Tryd.func23, Tryd.ntmps23
    go_wp2
    go_ret
    exact ⟨ret_int (by rw [pctZ, if_pos (.inl hn)]), 0, rfl⟩
  · by_cases hd : d < 1
    · go_enter Tryd.func23, Tryd.ntmps23
      go_wp2
      go_ret
      exact ⟨ret_int (by rw [pctZ, if_pos (.inr hd)]), 0, rfl⟩
    · have t1 : decide (n < 1) = false := by simp; omega
      have t2 : decide (d < 1) = false := by simp; omega
      go_enter Tryd.func23, Tryd.ntmps23
      go_wp2
      have q1 : n / d ≤ n := Int.ediv_le_self _ (by omega)
      have q0 : 0 ≤ n / d := Int.ediv_nonneg (by omega) (by omega)
      have r0 : 0 ≤ n % d := Int.emod_nonneg _ (by omega)
      have r1 : n % d < d := Int.emod_lt_of_pos _ (by omega)
      go_loop [5, 6, 8] (fun a b i => ∃ k q r : Int, i = .int .i64 k ∧ a = .int .u64 q ∧ b = .int .u64 r ∧ 0 ≤ k ∧ k ≤ 100 ∧ 0 ≤ q ∧ q ≤ 9223372036854775807 ∧ 0 ≤ r ∧ r < d ∧ Hid (q = k * n / d) ∧ Hid (r = k * n % d)) (fun _ _ i => (100 - intOf i).toNat)
      case atStart => exact ⟨0, 0, 0, rfl, rfl, rfl, by omega, by omega, by omega, by omega, by omega, by omega, Lib.hid (by simp), Lib.hid (by simp)⟩
      case round =>
        obtain ⟨k, q, r, rfl, rfl, rfl, k0, k1, a0, a1, b0, b1, hq, hr⟩ := hrel
        by_cases c0 : k < 100
        · have kn1 : (k + 1) * n = k * n + n := by rw [Int.add_mul, Int.one_mul]
          by_cases c1 : d ≤ r + n % d
          · have S := Lib.hid (step_yes (a := k * n) (n := n) (d := d) (by omega) (by rw [← hr.out]; exact c1))
            rw [← kn1, ← hq.out, ← hr.out] at S
            clear kn1
            by_cases c2 : 9223372036854775807 < q + n / d + 1
            · have F := Lib.hid (early (k := k + 1) (n := n) (d := d) (by omega) (by omega) (by omega) (by rw [S.out.1]; exact c2))
              go_wp2
              go_ret
              exact ⟨ret_int F.out, 0, rfl⟩
            · go_wp2
              go_round
              case rel => exact ⟨k + 1, q + n / d + 1, r + n % d - d, rfl, rfl, rfl, by omega, by omega, by omega, by omega, by omega, by omega, Lib.hid S.out.1.symm, Lib.hid S.out.2.symm⟩
              case measure => simp [intOf]; omega
          · have S := Lib.hid (step_no (a := k * n) (n := n) (d := d) (by omega) (by rw [← hr.out]; omega))
            rw [← kn1, ← hq.out, ← hr.out] at S
            clear kn1
            by_cases c2 : 9223372036854775807 < q + n / d
            · have F := Lib.hid (early (k := k + 1) (n := n) (d := d) (by omega) (by omega) (by omega) (by rw [S.out.1]; exact c2))
              go_wp2
              go_ret
              exact ⟨ret_int F.out, 0, rfl⟩
            · go_wp2
              go_round
              case rel => exact ⟨k + 1, q + n / d, r + n % d, rfl, rfl, rfl, by omega, by omega, by omega, by omega, by omega, by omega, Lib.hid S.out.1.symm, Lib.hid S.out.2.symm⟩
              case measure => simp [intOf]; omega
        · obtain rfl : k = 100 := by omega
          by_cases c1 : 0 < r
          · go_wp2
            go_ret
            refine ⟨ret_int ?_, 0, rfl⟩
            exact pct_last (by omega) (by omega) a1 hq.out hr.out (.inl ⟨c1, rfl⟩)
          · go_wp2
            go_ret
            refine ⟨ret_int ?_, 0, rfl⟩
            exact pct_last (by omega) (by omega) a1 hq.out hr.out (.inr ⟨by omega, rfl⟩)
end Go.Proofs.YtghbamknhiiieaaDoor
