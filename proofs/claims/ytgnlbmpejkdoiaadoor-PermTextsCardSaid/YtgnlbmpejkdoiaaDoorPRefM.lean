/-
  The reference's digits, anyX, has and May. Conditions: modes from 0 to 4095, wants from 0 to 7.
-/
import Derived.Test.YtgnlbmpejkdoiaaDoorPMay
set_option linter.unusedVariables false
namespace Go.Proofs.YtgnlbmpejkdoiaaDoor
open Go.RowKit

theorem div_step (m : Int) (k : Nat) : m / 8 ^ k / 8 = m / 8 ^ (k + 1) := by
  rw [Int.ediv_ediv_of_nonneg (Int.le_of_lt (Int.pow_pos (by decide))), Int.pow_succ]
def DRel (m : Int) (N : Nat) (v i : Value) : Prop := ∃ (k : Nat) (x : Int), k ≤ N ∧ i = .int .i64 (k : Int) ∧ v = .int .i64 x ∧ 0 ≤ x ∧ x ≤ 4095 ∧ Hid (x = m / 8 ^ k)

set_option maxHeartbeats 1000000 in
theorem digit_any (m : Int) (N : Nat) (w : World) (hN : N ≤ 3) (h0 : 0 ≤ m) (h1 : m < 4096) :
    Calls Tryd.prog 19 #[.int .i64 m, .int .i64 (N : Int)] w fun e w' => e = .returned (.int .i64 (m / 8 ^ N % 8)) ∧ w = w' := by
  go_enter Tryd.func19, Tryd.ntmps19
  go_wp2
  go_loop [0, 5] (DRel m N) (fun _ i => N - (intOf i).toNat)
  case atStart => exact ⟨0, m, by omega, rfl, rfl, h0, by omega, Lib.hid (by simp)⟩
  case round =>
    obtain ⟨k, x, hk, rfl, rfl, x0, x1, hx⟩ := hrel
    clear h0 h1
    by_cases hd : k < N
    · have hd' : decide ((k : Int) < (N : Int)) = true := by simpa using hd
      have hx2 : Hid (x / 8 = m / 8 ^ (k + 1)) := Lib.hid (by rw [hx.out, div_step])
      go_wp2
      go_round
      case rel => exact ⟨k + 1, x / 8, by omega, by simp, rfl, by omega, by omega, hx2⟩
      case measure => simp [intOf]; omega
    · have hd' : decide ((k : Int) < (N : Int)) = false := by simpa using hd
      have hk' : k = N := by omega
      have hx2 : Hid (x % 8 = m / 8 ^ N % 8) := Lib.hid (by rw [hx.out, hk'])
      clear hk' hk
      go_wp2
      go_ret
      exact ⟨ret_int hx2.out, rfl⟩
theorem digitAt (N : Nat) (i : Int) (h : i = (N : Int)) (hN : N ≤ 3) (m : Int) (w : World) (h0 : 0 ≤ m) (h1 : m < 4096) :
    Calls Tryd.prog 19 #[.int .i64 m, .int .i64 i] w fun e w' => e = .returned (.int .i64 (m / 8 ^ N % 8)) ∧ w = w' := by subst h; exact digit_any m N w hN h0 h1

theorem bit_digit (m : Int) (N : Nat) (hN : N ≤ 2) : ((m / 8 ^ N % 8 % 2 : Int) == 1) = bitB m (3 * N) := by
  have e : (m / 8 ^ N % 8 % 2 : Int) = m / 2 ^ (3 * N) % 2 := by
    have : N = 0 ∨ N = 1 ∨ N = 2 := by omega
    rcases this with rfl | rfl | rfl <;> simp <;> omega
  rw [e]
  unfold bitB
  by_cases h : m / 2 ^ (3 * N) % 2 = 1
  · rw [decide_eq_true h, h]; rfl
  · rw [decide_eq_false h]; exact beq_eq_false_iff_ne.2 h

set_option maxHeartbeats 1000000 in
theorem anyX_any (m : Int) (w : World) (h0 : 0 ≤ m) (h1 : m < 4096) :
    Calls Tryd.prog 17 #[.int .i64 m] w fun e w' => e = .returned (.bool (anyB m)) ∧ w = w' := by
  have HA := Lib.hid (show (bitB m 0 || bitB m 3 || bitB m 6) = anyB m by unfold anyB; cases bitB m 0 <;> cases bitB m 3 <;> cases bitB m 6 <;> rfl)
  have c0 := fun w => digitAt 0 0 rfl (by decide) m w h0 h1
  have c1 := fun w => digitAt 1 1 rfl (by decide) m w h0 h1
  have c2 := fun w => digitAt 2 2 rfl (by decide) m w h0 h1
  obtain ⟨d0, e0, p0, q0⟩ : ∃ d, m / 8 ^ 0 % 8 = d ∧ 0 ≤ d ∧ d < 8 := ⟨_, rfl, by omega, by omega⟩
  obtain ⟨d1, e1, p1, q1⟩ : ∃ d, m / 8 ^ 1 % 8 = d ∧ 0 ≤ d ∧ d < 8 := ⟨_, rfl, by omega, by omega⟩
  obtain ⟨d2, e2, p2, q2⟩ : ∃ d, m / 8 ^ 2 % 8 = d ∧ 0 ≤ d ∧ d < 8 := ⟨_, rfl, by omega, by omega⟩
  have b0 := bit_digit m 0 (by decide)
  have b1 := bit_digit m 1 (by decide)
  have b2 := bit_digit m 2 (by decide)
  rw [e0] at b0 c0
  rw [e1] at b1 c1
  rw [e2] at b2 c2
  clear e0 e1 e2
  have C0 := Lib.hid c0
  have C1 := Lib.hid c1
  have C2 := Lib.hid c2
  clear c0 c1 c2 h0 h1
  cases k0 : bitB m 0
  · cases k1 : bitB m 3
    · have HR := Lib.hid (show bitB m 6 = anyB m by rw [← HA.out, k0, k1]; rfl)
      rw [show 3 * 0 = 0 from rfl, k0] at b0
      rw [show 3 * 1 = 3 from rfl, k1] at b1
      have B2 := Lib.hid b2
      clear b2 k0 k1
      go_enter Tryd.func17, Tryd.ntmps17
      go_wp2_with fail
      refine (C0.out _).mono ?_
      rintro e w' ⟨rfl, rfl⟩
      go_wp2_with fail
      refine (C1.out _).mono ?_
      rintro e w' ⟨rfl, rfl⟩
      go_wp2_with fail
      refine (C2.out _).mono ?_
      rintro e w' ⟨rfl, rfl⟩
      go_wp2_with fail
      go_ret
      exact ⟨ret_bool (B2.out.trans HR.out), rfl⟩
    · have HR := Lib.hid (show true = anyB m by rw [← HA.out, k0, k1]; rfl)
      rw [show 3 * 0 = 0 from rfl, k0] at b0
      rw [show 3 * 1 = 3 from rfl, k1] at b1
      clear b2 k0 k1
      go_enter Tryd.func17, Tryd.ntmps17
      go_wp2_with fail
      refine (C0.out _).mono ?_
      rintro e w' ⟨rfl, rfl⟩
      go_wp2_with fail
      refine (C1.out _).mono ?_
      rintro e w' ⟨rfl, rfl⟩
      go_wp2_with fail
      go_ret
      exact ⟨ret_bool HR.out, rfl⟩
  · have HR := Lib.hid (show true = anyB m by rw [← HA.out, k0]; rfl)
    rw [show 3 * 0 = 0 from rfl, k0] at b0
    clear b1 b2 k0
    go_enter Tryd.func17, Tryd.ntmps17
    go_wp2_with fail
    refine (C0.out _).mono ?_
    rintro e w' ⟨rfl, rfl⟩
    go_wp2_with fail
    go_ret
    exact ⟨ret_bool HR.out, rfl⟩

theorem may_dec : ∀ a b : Fin 8, mayB (a.val : Int) (b.val : Int) = (decide ((b.val : Int) / 4 ≤ (a.val : Int) / 4) && (decide ((b.val : Int) / 2 % 2 ≤ (a.val : Int) / 2 % 2) && decide ((b.val : Int) % 2 ≤ (a.val : Int) % 2))) := by decide
theorem may_has (s t : Int) (h0 : 0 ≤ s) (h1 : s < 8) (h2 : 0 ≤ t) (h3 : t < 8) : mayB s t = (decide (t / 4 ≤ s / 4) && (decide (t / 2 % 2 ≤ s / 2 % 2) && decide (t % 2 ≤ s % 2))) := by
  have := may_dec ⟨s.toNat, by omega⟩ ⟨t.toNat, by omega⟩
  simp only at this
  rw [Int.toNat_of_nonneg h0, Int.toNat_of_nonneg h2] at this
  exact this
set_option maxHeartbeats 1000000 in
theorem has_any (s t : Int) (w : World) (h0 : 0 ≤ s) (h1 : s < 8) (h2 : 0 ≤ t) (h3 : t < 8) :
    Calls Tryd.prog 18 #[.int .i64 s, .int .i64 t] w fun e w' => e = .returned (.bool (mayB s t)) ∧ w = w' := by
  have HR := Lib.hid (may_has s t h0 h1 h2 h3)
  go_enter Tryd.func18, Tryd.ntmps18
  go_wp2
  all_goals go_ret
  · refine ⟨ret_bool ?_, rfl⟩
    rw [HR.out, decide_eq_true (show t / 4 ≤ s / 4 by assumption), decide_eq_true (show t / 2 % 2 ≤ s / 2 % 2 by assumption)]
    rfl
  · refine ⟨ret_bool ?_, rfl⟩
    rw [HR.out, decide_eq_true (show t / 4 ≤ s / 4 by assumption), decide_eq_false (show ¬ (t / 2 % 2 ≤ s / 2 % 2) by omega)]
    rfl
  · refine ⟨ret_bool ?_, rfl⟩
    rw [HR.out, decide_eq_false (show ¬ (t / 4 ≤ s / 4) by omega)]
    rfl
end Go.Proofs.YtgnlbmpejkdoiaaDoor
