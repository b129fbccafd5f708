/-
  What the reference's Digits returns: the digits of a number in a base. Conditions: the number is a uint64, the base lies in 2 .. 16.
-/
import Derived.Test.YtigkdehaepenhaaDoorCeil
import Derived.Deep.QuietTactic
import Derived.BigQuiet
import Derived.WalkSmall
import Derived.Laws.Concat
namespace Go.Proofs.YtigkdehaepenhaaDoor.N
open Go.RowKit

/-- A digit. -/
def dch (d : Nat) : UInt8 := UInt8.ofNat (if d < 10 then 48 + d else 87 + d)

/-- The digits of n in the base b (2 or more), the first ahead. -/
def digB (b n : Nat) : List UInt8 :=
  if _h : n < b ∨ b < 2 then [dch n] else digB b (n / b) ++ [dch (n % b)]
termination_by n
decreasing_by exact Nat.div_lt_self (by omega) (by omega)

def hexText : ByteArray := ⟨#[48, 49, 50, 51, 52, 53, 54, 55, 56, 57, 97, 98, 99, 100, 101, 102]⟩
theorem hex_at : ∀ d : Fin 16, hexText.extract d.val (d.val + 1) = ⟨([dch d.val] : List UInt8).toArray⟩ := by decide +kernel

/-- What the reference's loop keeps: what is left of the number, and the digits so far. -/
def DigInv (b n m k : Nat) (l : List UInt8) : Prop := digB b n = (if k ≠ 0 ∧ m = 0 then [] else digB b m) ++ l ∧ m * 2 ^ k < 18446744073709551616

theorem dig_start (b n : Nat) (h : n < 18446744073709551616) : DigInv b n n 0 [] := by
  simp [DigInv, h]

theorem dig_step {b n m k : Nat} {l : List UInt8} (hb : 2 ≤ b) (h : DigInv b n m k l) (hc : k = 0 ∨ 0 < m) : DigInv b n (m / b) (k + 1) (dch (m % b) :: l) := by
  obtain ⟨h1, h2⟩ := h
  rw [if_neg (by omega)] at h1
  refine ⟨?_, ?_⟩
  · rw [h1]
    by_cases hm : m < b
    · rw [digB, dif_pos (.inl hm), Nat.div_eq_of_lt hm, Nat.mod_eq_of_lt hm]; simp
    · have : 0 < m / b := Nat.div_pos (by omega) (by omega)
      rw [digB, dif_neg (by omega), if_neg (by omega)]; simp
  · have e : m / b ≤ m / 2 := Nat.div_le_div_left hb (by decide)
    have : m / b * 2 ^ (k + 1) ≤ m * 2 ^ k := by
      rw [Nat.pow_succ, Nat.mul_comm (2 ^ k) 2, ← Nat.mul_assoc]
      exact Nat.mul_le_mul_right _ (by omega)
    omega

theorem dig_end {b n m k : Nat} {l : List UInt8} (h : DigInv b n m k l) (hc : 70 ≤ k ∨ (k ≠ 0 ∧ m = 0)) : l = digB b n := by
  obtain ⟨h1, h2⟩ := h
  have hm : m = 0 := by
    rcases hc with hc | hc
    · rcases Nat.eq_zero_or_pos m with h0 | h0
      · exact h0
      · have a : 2 ^ 70 ≤ 2 ^ k := Nat.pow_le_pow_right (by decide) hc
        have b : 1 * 2 ^ k ≤ m * 2 ^ k := Nat.mul_le_mul_right _ h0
        omega
    · exact hc.2
  rw [if_pos (by omega)] at h1
  rw [h1]; rfl

theorem hex_cons (m b : Int) (l : List UInt8) (h1 : 0 ≤ m % b) (h2 : m % b < 16) :
    (ByteArray.mk #[48, 49, 50, 51, 52, 53, 54, 55, 56, 57, 97, 98, 99, 100, 101, 102]).extract (m % b).toNat (m % b + 1).toNat ++ ⟨l.toArray⟩ = ⟨(dch (m % b).toNat :: l).toArray⟩ := by
  have e := hex_at ⟨(m % b).toNat, by omega⟩
  simp only at e
  rw [show (m % b + 1).toNat = (m % b).toNat + 1 by omega]
  unfold hexText at e
  rw [e, ByteArray.mk_append_mk]; rfl

theorem toNat_div (m b : Int) (h1 : 0 ≤ m) (h2 : 0 ≤ b) : m.toNat / b.toNat = (m / b).toNat := by
  obtain ⟨x, rfl⟩ := Int.eq_ofNat_of_zero_le h1
  obtain ⟨y, rfl⟩ := Int.eq_ofNat_of_zero_le h2
  rw [← Int.natCast_ediv, Int.toNat_natCast, Int.toNat_natCast, Int.toNat_natCast]
theorem toNat_mod (m b : Int) (h1 : 0 ≤ m) (h2 : 0 ≤ b) : m.toNat % b.toNat = (m % b).toNat := by
  obtain ⟨x, rfl⟩ := Int.eq_ofNat_of_zero_le h1
  obtain ⟨y, rfl⟩ := Int.eq_ofNat_of_zero_le h2
  rw [← Int.natCast_emod, Int.toNat_natCast, Int.toNat_natCast, Int.toNat_natCast]
theorem ret_txt {a b : List UInt8} (h : a = b) : Ending.returned (.string ⟨a.toArray⟩) = .returned (.string ⟨b.toArray⟩) := by rw [h]

set_option maxHeartbeats 1000000 in
theorem refDigits_any (n b : Int) (w : World) (h1 : 0 ≤ n) (h2 : n ≤ 18446744073709551615) (h3 : 2 ≤ b) (h4 : b ≤ 16) :
    Calls Tryd.prog 34 #[.int .u64 n, .int .u64 b] w fun e w' => e = .returned (.string ⟨(digB b.toNat n.toNat).toArray⟩) ∧ ∃ k, w' = w.drewN k := by
  go_enter Tryd.func34, Tryd.ntmps34
  go_wp2
  go_loopw [0, 5, 6] (fun a s i wr => ∃ (m k : Int) (l : List UInt8), a = .int .u64 m ∧ i = .int .i64 k ∧ s = .string ⟨l.toArray⟩ ∧ 0 ≤ m ∧ m ≤ 18446744073709551615 ∧ 0 ≤ k ∧ k ≤ 70 ∧ l.length ≤ k ∧ Hid (DigInv b.toNat n.toNat m.toNat k.toNat l) ∧ ∃ j, wr = w.drewN j) (fun _ _ i _ => (70 - intOf i).toNat)
  case atStart => exact ⟨n, 0, [], rfl, rfl, rfl, h1, h2, by omega, by omega, by simp, Lib.hid (dig_start _ _ (by omega)), 0, rfl⟩
  case round =>
    obtain ⟨m, k, l, rfl, rfl, rfl, m0, m1, k0, k1, hl, hinv, j, rfl⟩ := hrel
    by_cases c : k < 70 ∧ (k = 0 ∨ 0 < m)
    · obtain ⟨c0, c1⟩ := c
      have r0 : 0 ≤ m % b := Int.emod_nonneg _ (by omega)
      have r1 : m % b < b := Int.emod_lt_of_pos _ (by omega)
      have q0 : 0 ≤ m / b := Int.ediv_nonneg (by omega) (by omega)
      have q1 : m / b ≤ m := Int.ediv_le_self _ (by omega)
      have ST := Lib.hid (dig_step (by omega) hinv.out (by omega))
      rw [toNat_div m b m0 (by omega), toNat_mod m b m0 (by omega), show k.toNat + 1 = (k + 1).toNat by omega] at ST
      by_cases c2 : k = 0
      · subst c2
        clear c1
        go_wp2
        go_quiet (fail)
        go_wp2
        rw [hex_cons m b l r0 (by omega)]
        go_roundw
        case rel => exact ⟨m / b, 1, _, rfl, rfl, rfl, by omega, by omega, by omega, by omega, by simp only [List.length_cons]; omega, ST, _, rfl⟩
        case measure => simp [intOf]
      · have c1i : (k == 0) = false := beq_eq_false_iff_ne.2 c2
        have c3 : 0 < m := by omega
        clear c1 c2
        go_wp2
        go_quiet (fail)
        go_wp2
        rw [hex_cons m b l r0 (by omega)]
        go_roundw
        case rel => exact ⟨m / b, k + 1, _, rfl, rfl, rfl, by omega, by omega, by omega, by omega, by simp only [List.length_cons]; omega, ST, _, rfl⟩
        case measure => simp [intOf]; omega
    · have EN := Lib.hid (dig_end hinv.out (by omega))
      by_cases c0 : k < 70
      · have c1i : (k == 0) = false := beq_eq_false_iff_ne.2 (by omega)
        have c2 : m ≤ 0 := by omega
        clear c
        go_wp2
        go_ret
        exact ⟨ret_txt EN.out, j, rfl⟩
      · clear c
        go_wp2
        go_ret
        exact ⟨ret_txt EN.out, j, rfl⟩
end Go.Proofs.YtigkdehaepenhaaDoor.N
