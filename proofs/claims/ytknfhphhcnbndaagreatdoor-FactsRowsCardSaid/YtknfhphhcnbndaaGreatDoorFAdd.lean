/-
  What the quotients, the cut sums and their references return: contracts of digits.Ceil, digits.addTwo, digits.Add and of the reference's Ceil and Add. Conditions: the arguments are int64s.
  What digits.Add and the reference's Add return for a list of int64s: the sum, cut at each step. Conditions: the slice reads as a row of int64s.
  What the reference's Digits returns: the digits of a number in a base. Conditions: the number is a uint64, the base lies in 2 .. 16.
-/
import Derived.Test.YtknfhphhcnbndaaGreatDoorRows
import Derived.WalkKit
import Derived.WalkSpells
import Derived.WalkLawsBesides
import Derived.Lib.Hide
import Derived.OpenShut
import Derived.Deep.QuietTactic
import Derived.BigQuiet
import Derived.WalkSmall
import Derived.Laws.Concat
set_option linter.unusedVariables false
set_option linter.unusedSimpArgs false
namespace Go.Proofs.YtknfhphhcnbndaaGreatDoor.N
open Go.RowKit

theorem ret_int {k : IntKind} {a b : Int} (h : a = b) : Ending.returned (.int k a) = .returned (.int k b) := by rw [h]

def ceilZ (n d : Int) : Int := if n < 1 ∨ d < 1 then 0 else (n - 1) / d + 1

set_option maxHeartbeats 400000 in
theorem ceil_any (n d : Int) (w : World) (h1 : -9223372036854775808 ≤ n) (h2 : n ≤ 9223372036854775807) (h3 : -9223372036854775808 ≤ d) (h4 : d ≤ 9223372036854775807) :
    Calls Tryz.prog 147 #[.int .i64 n, .int .i64 d] w fun e w' => e = .returned (.int .i64 (ceilZ n d)) ∧ w = w' := by
  by_cases hn : n < 1
  · go_enter Tryz.func147, Tryz.ntmps147
    go_wp2
    go_ret
    exact ⟨by simp [ceilZ, hn], rfl⟩
  · by_cases hd : d < 1
    · go_enter Tryz.func147, Tryz.ntmps147
      go_wp2
      go_ret
      exact ⟨by simp [ceilZ, hd], rfl⟩
    · have hq : (n - 1) / d ≤ n - 1 := Int.ediv_le_self _ (by omega)
      have hq0 : 0 ≤ (n - 1) / d := Int.ediv_nonneg (by omega) (by omega)
      go_enter Tryz.func147, Tryz.ntmps147
      go_wp2
      go_ret
      exact ⟨ret_int (by rw [ceilZ, if_neg (by omega)]), rfl⟩

theorem ceil_alt (n d : Int) (hn : 1 ≤ n) (hd : 1 ≤ d) : ceilZ n d = if 0 < n % d then n / d + 1 else n / d := by
  have e := Int.emod_add_mul_ediv n d
  have m0 := Int.emod_nonneg n (show d ≠ 0 by omega)
  have m1 := Int.emod_lt_of_pos n (show 0 < d by omega)
  rw [ceilZ, if_neg (by omega)]
  by_cases h : 0 < n % d
  · rw [if_pos h]
    have : (n - 1) / d = n / d := by
      refine (Int.ediv_emod_unique (r := n % d - 1) (show 0 < d by omega)).2 ⟨?_, ?_, ?_⟩ |>.1
      · omega
      · omega
      · omega
    omega
  · rw [if_neg h]
    have : (n - 1) / d = n / d - 1 := by
      refine (Int.ediv_emod_unique (r := d - 1) (show 0 < d by omega)).2 ⟨?_, ?_, ?_⟩ |>.1
      · rw [Int.mul_sub]; omega
      · omega
      · omega
    omega

set_option maxHeartbeats 400000 in
theorem refCeil_any (n d : Int) (w : World) (h1 : -9223372036854775808 ≤ n) (h2 : n ≤ 9223372036854775807) (h3 : -9223372036854775808 ≤ d) (h4 : d ≤ 9223372036854775807) :
    Calls Tryz.prog 44 #[.int .i64 n, .int .i64 d] w fun e w' => e = .returned (.int .i64 (ceilZ n d)) ∧ w = w' := by
  by_cases hn : n < 1
  · go_enter Tryz.func44, Tryz.ntmps44
    go_wp2
    go_ret
    exact ⟨by simp [ceilZ, hn], rfl⟩
  · by_cases hd : d < 1
    · go_enter Tryz.func44, Tryz.ntmps44
      go_wp2
      go_ret
      exact ⟨by simp [ceilZ, hd], rfl⟩
    · have hq : n / d ≤ n := Int.ediv_le_self _ (by omega)
      have hq0 : 0 ≤ n / d := Int.ediv_nonneg (by omega) (by omega)
      have ha := ceil_alt n d (by omega) (by omega)
      have HA := Lib.hid ha
      clear ha
      by_cases hm : 0 < n % d
      · have hlt : n / d < n := by
          by_cases h : d = 1
          · subst h; simp at hm
          · exact Int.ediv_lt_self_of_pos_of_ne_one (by omega) (by omega)
        go_enter Tryz.func44, Tryz.ntmps44
        go_wp2
        go_ret
        exact ⟨ret_int (by rw [HA.out, if_pos hm]), rfl⟩
      · go_enter Tryz.func44, Tryz.ntmps44
        go_wp2
        go_ret
        exact ⟨ret_int (by rw [HA.out, if_neg (by omega)]), rfl⟩

def cutZ (n : Int) : Int := if 9223372036854775807 < n then 9223372036854775807 else if n < -9223372036854775808 then -9223372036854775808 else n

theorem cutZ_bd (n : Int) : -9223372036854775808 ≤ cutZ n ∧ cutZ n ≤ 9223372036854775807 := by
  unfold cutZ; split <;> (try split) <;> omega

set_option maxHeartbeats 400000 in
theorem addTwo_any (a b : Int) (w : World) (h1 : -9223372036854775808 ≤ a) (h2 : a ≤ 9223372036854775807) (h3 : -9223372036854775808 ≤ b) (h4 : b ≤ 9223372036854775807) :
    Calls Tryz.prog 150 #[.int .i64 a, .int .i64 b] w fun e w' => e = .returned (.int .i64 (cutZ (a + b))) ∧ w = w' := by
  by_cases c1 : 0 < b
  · by_cases c2 : 9223372036854775807 - b < a
    · go_enter Tryz.func150, Tryz.ntmps150
      go_wp2
      go_ret
      exact ⟨ret_int (by rw [cutZ, if_pos (by omega)]), rfl⟩
    · go_enter Tryz.func150, Tryz.ntmps150
      go_wp2
      go_ret
      exact ⟨ret_int (by rw [cutZ, if_neg (by omega), if_neg (by omega)]), rfl⟩
  · by_cases c2 : b < 0
    · by_cases c3 : a < -9223372036854775808 - b
      · go_enter Tryz.func150, Tryz.ntmps150
        go_wp2
        go_ret
        exact ⟨ret_int (by rw [cutZ, if_neg (by omega), if_pos (by omega)]), rfl⟩
      · go_enter Tryz.func150, Tryz.ntmps150
        go_wp2
        go_ret
        exact ⟨ret_int (by rw [cutZ, if_neg (by omega), if_neg (by omega)]), rfl⟩
    · go_enter Tryz.func150, Tryz.ntmps150
      go_wp2
      go_ret
      exact ⟨ret_int (by rw [cutZ, if_neg (by omega), if_neg (by omega)]), rfl⟩
end Go.Proofs.YtknfhphhcnbndaaGreatDoor.N

namespace Go.Proofs.YtknfhphhcnbndaaGreatDoor.N
open Go.RowKit

def addAll (l : List Int) : Int := l.foldl (fun s x => cutZ (s + x)) 0

theorem addAll_snoc (l : List Int) (x : Int) : addAll (l ++ [x]) = cutZ (addAll l + x) := by simp [addAll]

theorem addAll_bd (l : List Int) : -9223372036854775808 ≤ addAll l ∧ addAll l ≤ 9223372036854775807 := by
  rcases List.eq_nil_or_concat l with rfl | ⟨l', x, rfl⟩
  · simp [addAll]
  · rw [List.concat_eq_append, addAll_snoc]; exact cutZ_bd _

theorem take_getD (zs : List Int) (k : Nat) (h : k < zs.length) : zs.take (k + 1) = zs.take k ++ [zs.getD k 0] := by
  rw [List.take_succ_eq_append_getElem h]
  simp [List.getD_eq_getElem?_getD, h]

set_option maxHeartbeats 400000 in
theorem add_some (b off len cap : Nat) (zs : List Int) (w : World) (hl : len ≤ zs.length) (hm : zs.length ≤ 9223372036854775807)
    (hcell : ∀ i, i < zs.length → w.cell? ⟨b, off + i, none⟩ = some (.int .i64 (zs.getD i 0))) (hbd : ∀ i, -9223372036854775808 ≤ zs.getD i 0 ∧ zs.getD i 0 ≤ 9223372036854775807) :
    Calls Tryz.prog 93 #[.slice (some ⟨b, off, none⟩) len cap] w fun e w' => e = .returned (.int .i64 (addAll (zs.take len))) ∧ w = w' := by
  have HC := Lib.hid hcell
  have HB := Lib.hid hbd
  clear hcell hbd
  go_enter Tryz.func93, Tryz.ntmps93
  go_wp2
  go_loop [3, 8] (fun s i => ∃ k : Nat, k ≤ len ∧ i = .int .i64 k ∧ s = .int .i64 (addAll (zs.take k))) (fun _ i => len - (intOf i).toNat)
  case atStart => exact ⟨0, Nat.zero_le _, rfl, rfl⟩
  case round =>
    obtain ⟨k, hk, rfl, rfl⟩ := hrel
    by_cases hlt : k < len
    · have hc := HC.out k (by omega)
      have hb := HB.out k
      have ha := addAll_bd (zs.take k)
      have hs : addAll (zs.take (k + 1)) = cutZ (addAll (zs.take k) + zs.getD k 0) := by rw [take_getD zs k (by omega), addAll_snoc]
      have HS := Lib.hid hs
      clear hs
      generalize zs.getD k 0 = z at *
      generalize addAll (zs.take k) = s at *
      go_wp2_with (go_at_call 150; refine (addTwo_any _ _ _ (by omega) (by omega) (by omega) (by omega)).mono ?_; rintro e w' ⟨rfl, rfl⟩)
      go_round
      case rel => exact ⟨k + 1, by omega, by go_num, by rw [HS.out]⟩
      case measure => simp [intOf]; omega
    · obtain rfl : k = len := by omega
      go_wp2
      go_ret
      exact ⟨rfl, rfl⟩

set_option maxHeartbeats 400000 in
theorem refAdd_none (cap : Nat) (a : Option Addr) (w : World) :
    Calls Tryz.prog 45 #[.slice a 0 cap] w fun e w' => e = .returned (.int .i64 0) ∧ w = w' := by
  go_enter Tryz.func45, Tryz.ntmps45
  go_wp2
  refine wp_loop_rounds 1 ?_; rw [rounds_succ]
  go_wp2
  go_ret
  exact ⟨rfl, rfl⟩

set_option maxHeartbeats 1000000 in
theorem refAdd_some (b off len cap : Nat) (zs : List Int) (w : World) (hl : len ≤ zs.length) (hm : zs.length ≤ 9223372036854775807)
    (hcell : ∀ i, i < zs.length → w.cell? ⟨b, off + i, none⟩ = some (.int .i64 (zs.getD i 0))) (hbd : ∀ i, -9223372036854775808 ≤ zs.getD i 0 ∧ zs.getD i 0 ≤ 9223372036854775807) :
    Calls Tryz.prog 45 #[.slice (some ⟨b, off, none⟩) len cap] w fun e w' => e = .returned (.int .i64 (addAll (zs.take len))) ∧ w = w' := by
  have HC := Lib.hid hcell
  have HB := Lib.hid hbd
  clear hcell hbd
  go_enter Tryz.func45, Tryz.ntmps45
  go_wp2
  go_loop [3, 4] (fun s i => ∃ k : Nat, k ≤ len ∧ i = .int .i64 k ∧ s = .int .i64 (addAll (zs.take k))) (fun _ i => len - (intOf i).toNat)
  case atStart => exact ⟨0, Nat.zero_le _, rfl, rfl⟩
  case round =>
    obtain ⟨k, hk, rfl, rfl⟩ := hrel
    by_cases hlt : k < len
    · have hc := HC.out k (by omega)
      have hb := HB.out k
      have ha := addAll_bd (zs.take k)
      have hs : addAll (zs.take (k + 1)) = cutZ (addAll (zs.take k) + zs.getD k 0) := by rw [take_getD zs k (by omega), addAll_snoc]
      have HS := Lib.hid hs
      clear hs
      generalize zs.getD k 0 = z at *
      generalize addAll (zs.take k) = s at *
      by_cases c1 : 0 < z
      · by_cases c2 : 9223372036854775807 - z < s
        all_goals
          go_wp2
          go_round
          case rel => exact ⟨k + 1, by omega, by go_num, by rw [HS.out, cutZ]; first | rw [if_pos (by omega)] | rw [if_neg (by omega), if_neg (by omega)]⟩
          case measure => simp [intOf]; omega
      · by_cases c2 : z < 0
        · by_cases c3 : s < -9223372036854775808 - z
          all_goals
            go_wp2
            go_round
            case rel => exact ⟨k + 1, by omega, by go_num, by rw [HS.out, cutZ]; first | rw [if_neg (by omega), if_pos (by omega)] | rw [if_neg (by omega), if_neg (by omega)]⟩
            case measure => simp [intOf]; omega
        · go_wp2
          go_round
          case rel => exact ⟨k + 1, by omega, by go_num, by rw [HS.out, cutZ, if_neg (by omega), if_neg (by omega)]⟩
          case measure => simp [intOf]; omega
    · obtain rfl : k = len := by omega
      go_wp2
      go_ret
      exact ⟨rfl, rfl⟩

end Go.Proofs.YtknfhphhcnbndaaGreatDoor.N

namespace Go.Proofs.YtknfhphhcnbndaaGreatDoor.N
open Go.RowKit

/-- A digit. -/
def dch (d : Nat) : UInt8 := UInt8.ofNat (if d < 10 then 48 + d else 87 + d)

/-- The digits of n in the base b (2 or more), the first ahead. -/
def digB (b n : Nat) : List UInt8 :=
  if _h : n < b ∨ b < 2 then [dch n] else digB b (n / b) ++ [dch (n % b)]
termination_by n
decreasing_by exact Nat.div_lt_self (by omega) (by omega)

def hexText : ByteArray := ⟨#[48, 49, 50, 51, 52, 53, 54, 55, 56, 57, 97, 98, 99, 100, 101, 102]⟩
theorem hex_at : ∀ d : Fin 16, hexText.extract d.val (d.val + 1) = ⟨([dch d.val] : List UInt8).toArray⟩ := by decide +kernel

/-- What the reference's loop keeps: what is left of the number, and the digits so far. -/
def DigInv (b n m k : Nat) (l : List UInt8) : Prop := digB b n = (if k ≠ 0 ∧ m = 0 then [] else digB b m) ++ l ∧ m * 2 ^ k < 18446744073709551616

theorem dig_start (b n : Nat) (h : n < 18446744073709551616) : DigInv b n n 0 [] := by
  simp [DigInv, h]

theorem dig_step {b n m k : Nat} {l : List UInt8} (hb : 2 ≤ b) (h : DigInv b n m k l) (hc : k = 0 ∨ 0 < m) : DigInv b n (m / b) (k + 1) (dch (m % b) :: l) := by
  obtain ⟨h1, h2⟩ := h
  rw [if_neg (by omega)] at h1
  refine ⟨?_, ?_⟩
  · rw [h1]
    by_cases hm : m < b
    · rw [digB, dif_pos (.inl hm), Nat.div_eq_of_lt hm, Nat.mod_eq_of_lt hm]; simp
    · have : 0 < m / b := Nat.div_pos (by omega) (by omega)
      rw [digB, dif_neg (by omega), if_neg (by omega)]; simp
  · have e : m / b ≤ m / 2 := Nat.div_le_div_left hb (by decide)
    have : m / b * 2 ^ (k + 1) ≤ m * 2 ^ k := by
      rw [Nat.pow_succ, Nat.mul_comm (2 ^ k) 2, ← Nat.mul_assoc]
      exact Nat.mul_le_mul_right _ (by omega)
    omega

theorem dig_end {b n m k : Nat} {l : List UInt8} (h : DigInv b n m k l) (hc : 70 ≤ k ∨ (k ≠ 0 ∧ m = 0)) : l = digB b n := by
  obtain ⟨h1, h2⟩ := h
  have hm : m = 0 := by
    rcases hc with hc | hc
    · rcases Nat.eq_zero_or_pos m with h0 | h0
      · exact h0
      · have a : 2 ^ 70 ≤ 2 ^ k := Nat.pow_le_pow_right (by decide) hc
        have b : 1 * 2 ^ k ≤ m * 2 ^ k := Nat.mul_le_mul_right _ h0
        omega
    · exact hc.2
  rw [if_pos (by omega)] at h1
  rw [h1]; rfl

theorem hex_cons (m b : Int) (l : List UInt8) (h1 : 0 ≤ m % b) (h2 : m % b < 16) :
    (ByteArray.mk #[48, 49, 50, 51, 52, 53, 54, 55, 56, 57, 97, 98, 99, 100, 101, 102]).extract (m % b).toNat (m % b + 1).toNat ++ ⟨l.toArray⟩ = ⟨(dch (m % b).toNat :: l).toArray⟩ := by
  have e := hex_at ⟨(m % b).toNat, by omega⟩
  simp only at e
  rw [show (m % b + 1).toNat = (m % b).toNat + 1 by omega]
  unfold hexText at e
  rw [e, ByteArray.mk_append_mk]; rfl

theorem toNat_div (m b : Int) (h1 : 0 ≤ m) (h2 : 0 ≤ b) : m.toNat / b.toNat = (m / b).toNat := by
  obtain ⟨x, rfl⟩ := Int.eq_ofNat_of_zero_le h1
  obtain ⟨y, rfl⟩ := Int.eq_ofNat_of_zero_le h2
  rw [← Int.natCast_ediv, Int.toNat_natCast, Int.toNat_natCast, Int.toNat_natCast]
theorem toNat_mod (m b : Int) (h1 : 0 ≤ m) (h2 : 0 ≤ b) : m.toNat % b.toNat = (m % b).toNat := by
  obtain ⟨x, rfl⟩ := Int.eq_ofNat_of_zero_le h1
  obtain ⟨y, rfl⟩ := Int.eq_ofNat_of_zero_le h2
  rw [← Int.natCast_emod, Int.toNat_natCast, Int.toNat_natCast, Int.toNat_natCast]
theorem ret_txt {a b : List UInt8} (h : a = b) : Ending.returned (.string ⟨a.toArray⟩) = .returned (.string ⟨b.toArray⟩) := by rw [h]

set_option maxHeartbeats 1000000 in
theorem refDigits_any (n b : Int) (w : World) (h1 : 0 ≤ n) (h2 : n ≤ 18446744073709551615) (h3 : 2 ≤ b) (h4 : b ≤ 16) :
    Calls Tryz.prog 155 #[.int .u64 n, .int .u64 b] w fun e w' => e = .returned (.string ⟨(digB b.toNat n.toNat).toArray⟩) ∧ ∃ k, w' = w.drewN k := by
  go_enter Tryz.func155, Tryz.ntmps155
  go_wp2
  go_loopw [0, 5, 6] (fun a s i wr => ∃ (m k : Int) (l : List UInt8), a = .int .u64 m ∧ i = .int .i64 k ∧ s = .string ⟨l.toArray⟩ ∧ 0 ≤ m ∧ m ≤ 18446744073709551615 ∧ 0 ≤ k ∧ k ≤ 70 ∧ l.length ≤ k ∧ Hid (DigInv b.toNat n.toNat m.toNat k.toNat l) ∧ ∃ j, wr = w.drewN j) (fun _ _ i _ => (70 - intOf i).toNat)
  case atStart => exact ⟨n, 0, [], rfl, rfl, rfl, h1, h2, by omega, by omega, by simp, Lib.hid (dig_start _ _ (by omega)), 0, rfl⟩
  case round =>
    obtain ⟨m, k, l, rfl, rfl, rfl, m0, m1, k0, k1, hl, hinv, j, rfl⟩ := hrel
    by_cases c : k < 70 ∧ (k = 0 ∨ 0 < m)
    · obtain ⟨c0, c1⟩ := c
      have r0 : 0 ≤ m % b := Int.emod_nonneg _ (by omega)
      have r1 : m % b < b := Int.emod_lt_of_pos _ (by omega)
      have q0 : 0 ≤ m / b := Int.ediv_nonneg (by omega) (by omega)
      have q1 : m / b ≤ m := Int.ediv_le_self _ (by omega)
      have ST := Lib.hid (dig_step (by omega) hinv.out (by omega))
      rw [toNat_div m b m0 (by omega), toNat_mod m b m0 (by omega), show k.toNat + 1 = (k + 1).toNat by omega] at ST
      by_cases c2 : k = 0
      · subst c2
        clear c1
        go_wp2
        go_quiet (fail)
        go_wp2
        rw [hex_cons m b l r0 (by omega)]
        go_roundw
        case rel => exact ⟨m / b, 1, _, rfl, rfl, rfl, by omega, by omega, by omega, by omega, by simp only [List.length_cons]; omega, ST, _, rfl⟩
        case measure => simp [intOf]
      · have c1i : (k == 0) = false := beq_eq_false_iff_ne.2 c2
        have c3 : 0 < m := by omega
        clear c1 c2
        go_wp2
        go_quiet (fail)
        go_wp2
        rw [hex_cons m b l r0 (by omega)]
        go_roundw
        case rel => exact ⟨m / b, k + 1, _, rfl, rfl, rfl, by omega, by omega, by omega, by omega, by simp only [List.length_cons]; omega, ST, _, rfl⟩
        case measure => simp [intOf]; omega
    · have EN := Lib.hid (dig_end hinv.out (by omega))
      by_cases c0 : k < 70
      · have c1i : (k == 0) = false := beq_eq_false_iff_ne.2 (by omega)
        have c2 : m ≤ 0 := by omega
        clear c
        go_wp2
        go_ret
        exact ⟨ret_txt EN.out, j, rfl⟩
      · clear c
        go_wp2
        go_ret
        exact ⟨ret_txt EN.out, j, rfl⟩
end Go.Proofs.YtknfhphhcnbndaaGreatDoor.N
