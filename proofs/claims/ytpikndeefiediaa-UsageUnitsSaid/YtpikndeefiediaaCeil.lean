/-
  What the quotients, the cut sums and their references return: contracts of digits.Ceil, digits.addTwo, digits.Add and of the reference's Ceil and Add. Conditions: the arguments are int64s.
-/
import Derived.Test.YtpikndeefiediaaRows
import Derived.WalkKit
import Derived.WalkSpells
import Derived.WalkLawsBesides
import Derived.Lib.Hide
namespace Go.Proofs.Ytpikndeefiediaa.N
open Go.RowKit

theorem ret_int {k : IntKind} {a b : Int} (h : a = b) : Ending.returned (.int k a) = .returned (.int k b) := by rw [h]

def ceilZ (n d : Int) : Int := if n < 1 ∨ d < 1 then 0 else (n - 1) / d + 1

set_option maxHeartbeats 400000 in
theorem ceil_any (n d : Int) (w : World) (h1 : -9223372036854775808 ≤ n) (h2 : n ≤ 9223372036854775807) (h3 : -9223372036854775808 ≤ d) (h4 : d ≤ 9223372036854775807) :
    Calls Try.prog 7 #[.int .i64 n, .int .i64 d] w fun e w' => e = .returned (.int .i64 (ceilZ n d)) ∧ w = w' := by
  by_cases hn : n < 1
  · go_enter Try.func7, Try.ntmps7
    go_wp2
    go_ret
    exact ⟨by simp [ceilZ, hn], rfl⟩
  · by_cases hd : d < 1
    · go_enter Try.func7, Try.ntmps7
      go_wp2
      go_ret
      exact ⟨by simp [ceilZ, hd], rfl⟩
    · have hq : (n - 1) / d ≤ n - 1 := Int.ediv_le_self _ (by omega)
      have hq0 : 0 ≤ (n - 1) / d := Int.ediv_nonneg (by omega) (by omega)
      go_enter Try.func7, Try.ntmps7
      go_wp2
      go_ret
      exact ⟨ret_int (by rw [ceilZ, if_neg (by omega)]), rfl⟩

theorem ceil_alt (n d : Int) (hn : 1 ≤ n) (hd : 1 ≤ d) : ceilZ n d = if 0 < n % d then n / d + 1 else n / d := by
  have e := Int.emod_add_mul_ediv n d
  have m0 := Int.emod_nonneg n (show d ≠ 0 by omega)
  have m1 := Int.emod_lt_of_pos n (show 0 < d by omega)
  rw [ceilZ, if_neg (by omega)]
  by_cases h : 0 < n % d
  · rw [if_pos h]
    have : (n - 1) / d = n / d := by
      refine (Int.ediv_emod_unique (r := n % d - 1) (show 0 < d by omega)).2 ⟨?_, ?_, ?_⟩ |>.1
      · omega
      · omega
      · omega
    omega
  · rw [if_neg h]
    have : (n - 1) / d = n / d - 1 := by
      refine (Int.ediv_emod_unique (r := d - 1) (show 0 < d by omega)).2 ⟨?_, ?_, ?_⟩ |>.1
      · rw [Int.mul_sub]; omega
      · omega
      · omega
    omega

set_option maxHeartbeats 400000 in
theorem refCeil_any (n d : Int) (w : World) (h1 : -9223372036854775808 ≤ n) (h2 : n ≤ 9223372036854775807) (h3 : -9223372036854775808 ≤ d) (h4 : d ≤ 9223372036854775807) :
    Calls Try.prog 8 #[.int .i64 n, .int .i64 d] w fun e w' => e = .returned (.int .i64 (ceilZ n d)) ∧ w = w' := by
  by_cases hn : n < 1
  · go_enter Try.func8, Try.ntmps8
    go_wp2
    go_ret
    exact ⟨by simp [ceilZ, hn], rfl⟩
  · by_cases hd : d < 1
    · go_enter Try.func8, Try.ntmps8
      go_wp2
      go_ret
      exact ⟨by simp [ceilZ, hd], rfl⟩
    · have hq : n / d ≤ n := Int.ediv_le_self _ (by omega)
      have hq0 : 0 ≤ n / d := Int.ediv_nonneg (by omega) (by omega)
      have ha := ceil_alt n d (by omega) (by omega)
      have HA := Lib.hid ha
      clear ha
      by_cases hm : 0 < n % d
      · have hlt : n / d < n := by
          by_cases h : d = 1
          · subst h; simp at hm
          · exact Int.ediv_lt_self_of_pos_of_ne_one (by omega) (by omega)
        go_enter Try.func8, Try.ntmps8
        go_wp2
        go_ret
        exact ⟨ret_int (by rw [HA.out, if_pos hm]), rfl⟩
      · go_enter Try.func8, Try.ntmps8
        go_wp2
        go_ret
        exact ⟨ret_int (by rw [HA.out, if_neg (by omega)]), rfl⟩

def cutZ (n : Int) : Int := if 9223372036854775807 < n then 9223372036854775807 else if n < -9223372036854775808 then -9223372036854775808 else n

theorem cutZ_bd (n : Int) : -9223372036854775808 ≤ cutZ n ∧ cutZ n ≤ 9223372036854775807 := by
  unfold cutZ; split <;> (try split) <;> omega

end Go.Proofs.Ytpikndeefiediaa.N
