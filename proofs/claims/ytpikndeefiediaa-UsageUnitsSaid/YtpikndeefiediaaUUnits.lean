/-
  Blocks told in units: what usage.Units, the reference's Units and the laws' awake return. Conditions: the numbers are int64s.
-/
import Derived.Test.YtpikndeefiediaaCeil
set_option linter.unusedVariables false
namespace Go.Proofs.Ytpikndeefiediaa.U
open Go.RowKit

def unitsZ (b u : Int) : Int := if b < 1 then 0 else N.ceilZ (if 18014398509481983 < b then 9223372036854775807 else b * 512) (if u < 1 then 1024 else u)
theorem units_512 {b : Int} (h : 0 ≤ b) (h2 : b ≤ 18014398509481983) : unitsZ b 512 = b := by
  unfold unitsZ
  split
  · omega
  · rw [if_neg (by omega), if_neg (by omega)]
    unfold N.ceilZ
    rw [if_neg (by omega)]
    omega
theorem ret_u {k : IntKind} {a b : Int} (h : a = b) : Ending.returned (.int k a) = .returned (.int k b) := by rw [h]

set_option maxHeartbeats 400000 in
theorem units_any (b u : Int) (w : World) (h1 : -9223372036854775808 ≤ b) (h2 : b ≤ 9223372036854775807) (h3 : -9223372036854775808 ≤ u) (h4 : u ≤ 9223372036854775807) :
    Calls Try.prog 5 #[.int .i64 b, .int .i64 u] w fun e w' => e = .returned (.int .i64 (unitsZ b u)) ∧ w = w' := by
  by_cases hu : u < 1
  all_goals by_cases hb : b < 1
  all_goals try by_cases hc : 18014398509481983 < b
  all_goals
    go_enter Try.func5, Try.ntmps5
    go_wp2_with (go_at_call 7; refine (N.ceil_any _ _ _ (by omega) (by omega) (by omega) (by omega)).mono ?_; rintro e w' ⟨rfl, rfl⟩)
    go_ret
    exact ⟨ret_u (by unfold unitsZ; (first | rw [if_pos (show b < 1 by omega)] | rw [if_neg (show ¬ b < 1 by omega)]); try (first | rw [if_pos (show 18014398509481983 < b by omega)] | rw [if_neg (show ¬ 18014398509481983 < b by omega)]); try (first | rw [if_pos (show u < 1 by omega)] | rw [if_neg (show ¬ u < 1 by omega)])), rfl⟩

set_option maxHeartbeats 400000 in
theorem refUnits_any (b u : Int) (w : World) (h1 : -9223372036854775808 ≤ b) (h2 : b ≤ 9223372036854775807) (h3 : -9223372036854775808 ≤ u) (h4 : u ≤ 9223372036854775807) :
    Calls Try.prog 6 #[.int .i64 b, .int .i64 u] w fun e w' => e = .returned (.int .i64 (unitsZ b u)) ∧ w = w' := by
  by_cases hu : u < 1
  all_goals by_cases hb : b < 1
  all_goals try by_cases hc : 18014398509481983 < b
  all_goals
    go_enter Try.func6, Try.ntmps6
    go_wp2_with (go_at_call 8; refine (N.refCeil_any _ _ _ (by omega) (by omega) (by omega) (by omega)).mono ?_; rintro e w' ⟨rfl, rfl⟩)
    go_ret
    exact ⟨ret_u (by unfold unitsZ; (first | rw [if_pos (show b < 1 by omega)] | rw [if_neg (show ¬ b < 1 by omega)]); try (first | rw [if_pos (show 18014398509481983 < b by omega)] | rw [if_neg (show ¬ 18014398509481983 < b by omega)]); try (first | rw [if_pos (show u < 1 by omega)] | rw [if_neg (show ¬ u < 1 by omega)])), rfl⟩

theorem awakeU_any (w : World) : Calls Try.prog 4 #[] w fun e w' => e = .returned (.bool true) ∧ w = w' := by
  go_enter Try.func4, Try.ntmps4
  go_wp2_with (go_at_call 5; refine (units_any _ _ _ (by omega) (by omega) (by omega) (by omega)).mono ?_; rintro e w' ⟨rfl, rfl⟩)
  go_ret
  exact ⟨rfl, rfl⟩
end Go.Proofs.Ytpikndeefiediaa.U
