/-
  What the quotients, the cut sums and their references return: contracts of digits.Ceil, digits.addTwo, digits.Add and of the reference's Ceil and Add. Conditions: the arguments are int64s.
  What digits.Dec and the laws' own first question return: the decimal digits of a number; true. Conditions: the library's table of powers of ten lies as its text lays it.
  What the library's count of trailing noughts returns at 8 and at 16. Conditions: the library's table lies as its text lays it.
  What the reference's Digits returns: the digits of a number in a base. Conditions: the number is a uint64, the base lies in 2 .. 16.
  What the reference's Dec returns: the decimal digits, with a minus ahead of those of a number below 0. Conditions: the number is an int64.
  What the library's formatting of a uint64 in a base of 8 or 16 returns: its digits. Conditions: the library's table lies as its text lays it.
-/
import Derived.Test.YtigkdehaepenhaaGreatDoorRows
import Derived.WalkKit
import Derived.WalkSpells
import Derived.WalkLawsBesides
import Derived.Lib.Hide
import Derived.Test.YtigkdehaepenhaaGreatDoorShelf
import Derived.WalkSmall
import Derived.Lib.LaidTab
import Derived.Lib.AppendIntMem
import Derived.Deep.QuietTactic
import Derived.BigQuiet
import Derived.Laws.Concat
import Derived.Lib.ItoaNum
import Derived.Lib.AtoiErrMem
import Derived.Lib.ItoaMem
import Derived.Laws.IdiomStrings
namespace Go.Proofs.YtigkdehaepenhaaGreatDoor.N
open Go.RowKit

theorem ret_int {k : IntKind} {a b : Int} (h : a = b) : Ending.returned (.int k a) = .returned (.int k b) := by rw [h]

def ceilZ (n d : Int) : Int := if n < 1 ∨ d < 1 then 0 else (n - 1) / d + 1

set_option maxHeartbeats 400000 in
theorem ceil_any (n d : Int) (w : World) (h1 : -9223372036854775808 ≤ n) (h2 : n ≤ 9223372036854775807) (h3 : -9223372036854775808 ≤ d) (h4 : d ≤ 9223372036854775807) :
    Calls Tryz.prog 92 #[.int .i64 n, .int .i64 d] w fun e w' => e = .returned (.int .i64 (ceilZ n d)) ∧ w = w' := by
  by_cases hn : n < 1
  · go_enter Tryz.func92, Tryz.ntmps92
    go_wp2
    go_ret
    exact ⟨by simp [ceilZ, hn], rfl⟩
  · by_cases hd : d < 1
    · go_enter Tryz.func92, Tryz.ntmps92
      go_wp2
      go_ret
      exact ⟨by simp [ceilZ, hd], rfl⟩
    · have hq : (n - 1) / d ≤ n - 1 := Int.ediv_le_self _ (by omega)
      have hq0 : 0 ≤ (n - 1) / d := Int.ediv_nonneg (by omega) (by omega)
      go_enter Tryz.func92, Tryz.ntmps92
      go_wp2
      go_ret
      exact ⟨ret_int (by rw [ceilZ, if_neg (by omega)]), rfl⟩

theorem ceil_alt (n d : Int) (hn : 1 ≤ n) (hd : 1 ≤ d) : ceilZ n d = if 0 < n % d then n / d + 1 else n / d := by
  have e := Int.emod_add_mul_ediv n d
  have m0 := Int.emod_nonneg n (show d ≠ 0 by omega)
  have m1 := Int.emod_lt_of_pos n (show 0 < d by omega)
  rw [ceilZ, if_neg (by omega)]
  by_cases h : 0 < n % d
  · rw [if_pos h]
    have : (n - 1) / d = n / d := by
      refine (Int.ediv_emod_unique (r := n % d - 1) (show 0 < d by omega)).2 ⟨?_, ?_, ?_⟩ |>.1
      · omega
      · omega
      · omega
    omega
  · rw [if_neg h]
    have : (n - 1) / d = n / d - 1 := by
      refine (Int.ediv_emod_unique (r := d - 1) (show 0 < d by omega)).2 ⟨?_, ?_, ?_⟩ |>.1
      · rw [Int.mul_sub]; omega
      · omega
      · omega
    omega

set_option maxHeartbeats 400000 in
theorem refCeil_any (n d : Int) (w : World) (h1 : -9223372036854775808 ≤ n) (h2 : n ≤ 9223372036854775807) (h3 : -9223372036854775808 ≤ d) (h4 : d ≤ 9223372036854775807) :
    Calls Tryz.prog 27 #[.int .i64 n, .int .i64 d] w fun e w' => e = .returned (.int .i64 (ceilZ n d)) ∧ w = w' := by
  by_cases hn : n < 1
  · go_enter Tryz.func27, Tryz.ntmps27
    go_wp2
    go_ret
    exact ⟨by simp [ceilZ, hn], rfl⟩
  · by_cases hd : d < 1
    · go_enter Tryz.func27, Tryz.ntmps27
      go_wp2
      go_ret
      exact ⟨by simp [ceilZ, hd], rfl⟩
    · have hq : n / d ≤ n := Int.ediv_le_self _ (by omega)
      have hq0 : 0 ≤ n / d := Int.ediv_nonneg (by omega) (by omega)
      have ha := ceil_alt n d (by omega) (by omega)
      have HA := Lib.hid ha
      clear ha
      by_cases hm : 0 < n % d
      · have hlt : n / d < n := by
          by_cases h : d = 1
          · subst h; simp at hm
          · exact Int.ediv_lt_self_of_pos_of_ne_one (by omega) (by omega)
        go_enter Tryz.func27, Tryz.ntmps27
        go_wp2
        go_ret
        exact ⟨ret_int (by rw [HA.out, if_pos hm]), rfl⟩
      · go_enter Tryz.func27, Tryz.ntmps27
        go_wp2
        go_ret
        exact ⟨ret_int (by rw [HA.out, if_neg (by omega)]), rfl⟩

def cutZ (n : Int) : Int := if 9223372036854775807 < n then 9223372036854775807 else if n < -9223372036854775808 then -9223372036854775808 else n

theorem cutZ_bd (n : Int) : -9223372036854775808 ≤ cutZ n ∧ cutZ n ≤ 9223372036854775807 := by
  unfold cutZ; split <;> (try split) <;> omega

set_option maxHeartbeats 400000 in
theorem addTwo_any (a b : Int) (w : World) (h1 : -9223372036854775808 ≤ a) (h2 : a ≤ 9223372036854775807) (h3 : -9223372036854775808 ≤ b) (h4 : b ≤ 9223372036854775807) :
    Calls Tryz.prog 95 #[.int .i64 a, .int .i64 b] w fun e w' => e = .returned (.int .i64 (cutZ (a + b))) ∧ w = w' := by
  by_cases c1 : 0 < b
  · by_cases c2 : 9223372036854775807 - b < a
    · go_enter Tryz.func95, Tryz.ntmps95
      go_wp2
      go_ret
      exact ⟨ret_int (by rw [cutZ, if_pos (by omega)]), rfl⟩
    · go_enter Tryz.func95, Tryz.ntmps95
      go_wp2
      go_ret
      exact ⟨ret_int (by rw [cutZ, if_neg (by omega), if_neg (by omega)]), rfl⟩
  · by_cases c2 : b < 0
    · by_cases c3 : a < -9223372036854775808 - b
      · go_enter Tryz.func95, Tryz.ntmps95
        go_wp2
        go_ret
        exact ⟨ret_int (by rw [cutZ, if_neg (by omega), if_pos (by omega)]), rfl⟩
      · go_enter Tryz.func95, Tryz.ntmps95
        go_wp2
        go_ret
        exact ⟨ret_int (by rw [cutZ, if_neg (by omega), if_neg (by omega)]), rfl⟩
    · go_enter Tryz.func95, Tryz.ntmps95
      go_wp2
      go_ret
      exact ⟨ret_int (by rw [cutZ, if_neg (by omega), if_neg (by omega)]), rfl⟩
end Go.Proofs.YtigkdehaepenhaaGreatDoor.N

namespace Go.Proofs.YtigkdehaepenhaaGreatDoor.N
open Go.RowKit

/-- The table that the library reads, as its text lays it. -/
def Tab (w : World) : Prop := Lib.TabIs Tryz.prog w "internal/strconv.uint64pow10" .u64 Lib.pow10Tab

theorem gTab : Tryz.prog.globalNamed "internal/strconv.uint64pow10" = some 4 := by kernel_rfl

theorem var_lt {P : Program} {w : World} {n : String} {g : Nat} {cs : Array Value} (hg : P.globalNamed n = some g) (h : w.var? P n = some cs) : g < w.heap.size := by
  unfold World.var? at h
  simp only [hg, Option.bind_some] at h
  rcases Nat.lt_or_ge g w.heap.size with hl | hl
  · exact hl
  · rw [Array.getElem?_eq_none hl] at h
    simp at h

theorem Tab.keep {w w' : World} (h : Tab w) (hb : Below w.heap.size w w') : Tab w' :=
  var?_below hb gTab (var_lt gTab h) h

theorem below_two {w a b : World} (h : Below w.heap.size w a) (k : Below a.heap.size a b) : Below w.heap.size w b := h.trans (k.mono h.size)

theorem dec_any (n : Int) (w : World) (h1 : -9223372036854775808 ≤ n) (h2 : n ≤ 9223372036854775807) (ht : Tab w) :
    Calls Tryz.prog 82 #[.int .i64 n] w fun e w' => e = .returned (.string ⟨(Lib.itoa n).toArray⟩) ∧ Below w.heap.size w w' := by
  have HT := Lib.hid ht
  clear ht
  go_enter Tryz.func82, Tryz.ntmps82
  go_wp2_with fail
  refine (Tryz.strconv_FormatInt_10 n h1 h2 _ HT.out).mono ?_
  rintro e w' ⟨rfl, k, os, rfl⟩
  go_wp2_with fail
  go_ret
  exact ⟨rfl, Lib.below_grow _ _ (Nat.le_refl _) k os⟩

theorem itoa_seven : Lib.itoa (-7) = [45, 55] := by
  unfold Lib.itoa Lib.decDigits; simp

end Go.Proofs.YtigkdehaepenhaaGreatDoor.N

namespace Go.Proofs.YtigkdehaepenhaaGreatDoor.N
open Go.RowKit

/-- The two cells of the library's table that are read. -/
def TzTab (w : World) : Prop := w.cell? ⟨8, 7, none⟩ = some (.int .u8 3) ∧ w.cell? ⟨8, 15, none⟩ = some (.int .u8 4)

set_option maxHeartbeats 400000 in
theorem tz_eight (w : World) (ht : TzTab w) : Calls Tryz.prog 160 #[.int .u64 8] w fun e w' => e = .returned (.int .i64 3) ∧ w = w' := by
  obtain ⟨h1, _⟩ := ht
  have e8 : IntKind.u64.wrap (bits BinOp.and IntKind.u64 8 (IntKind.u64.wrap (-8)) * 285870213051353865) / 288230376151711744 = 7 := by decide +kernel
  go_enter Tryz.func160, Tryz.ntmps160
  go_wp2
  go_ret
  exact ⟨rfl, rfl⟩
set_option maxHeartbeats 400000 in
theorem tz_sixteen (w : World) (ht : TzTab w) : Calls Tryz.prog 160 #[.int .u64 16] w fun e w' => e = .returned (.int .i64 4) ∧ w = w' := by
  obtain ⟨_, h2⟩ := ht
  have e16 : IntKind.u64.wrap (bits BinOp.and IntKind.u64 16 (IntKind.u64.wrap (-16)) * 285870213051353865) / 288230376151711744 = 15 := by decide +kernel
  go_enter Tryz.func160, Tryz.ntmps160
  go_wp2
  go_ret
  exact ⟨rfl, rfl⟩
end Go.Proofs.YtigkdehaepenhaaGreatDoor.N

namespace Go.Proofs.YtigkdehaepenhaaGreatDoor.N
open Go.RowKit

/-- A digit. -/
def dch (d : Nat) : UInt8 := UInt8.ofNat (if d < 10 then 48 + d else 87 + d)

/-- The digits of n in the base b (2 or more), the first ahead. -/
def digB (b n : Nat) : List UInt8 :=
  if _h : n < b ∨ b < 2 then [dch n] else digB b (n / b) ++ [dch (n % b)]
termination_by n
decreasing_by exact Nat.div_lt_self (by omega) (by omega)

def hexText : ByteArray := ⟨#[48, 49, 50, 51, 52, 53, 54, 55, 56, 57, 97, 98, 99, 100, 101, 102]⟩
theorem hex_at : ∀ d : Fin 16, hexText.extract d.val (d.val + 1) = ⟨([dch d.val] : List UInt8).toArray⟩ := by decide +kernel

/-- What the reference's loop keeps: what is left of the number, and the digits so far. -/
def DigInv (b n m k : Nat) (l : List UInt8) : Prop := digB b n = (if k ≠ 0 ∧ m = 0 then [] else digB b m) ++ l ∧ m * 2 ^ k < 18446744073709551616

theorem dig_start (b n : Nat) (h : n < 18446744073709551616) : DigInv b n n 0 [] := by
  simp [DigInv, h]

theorem dig_step {b n m k : Nat} {l : List UInt8} (hb : 2 ≤ b) (h : DigInv b n m k l) (hc : k = 0 ∨ 0 < m) : DigInv b n (m / b) (k + 1) (dch (m % b) :: l) := by
  obtain ⟨h1, h2⟩ := h
  rw [if_neg (by omega)] at h1
  refine ⟨?_, ?_⟩
  · rw [h1]
    by_cases hm : m < b
    · rw [digB, dif_pos (.inl hm), Nat.div_eq_of_lt hm, Nat.mod_eq_of_lt hm]; simp
    · have : 0 < m / b := Nat.div_pos (by omega) (by omega)
      rw [digB, dif_neg (by omega), if_neg (by omega)]; simp
  · have e : m / b ≤ m / 2 := Nat.div_le_div_left hb (by decide)
    have : m / b * 2 ^ (k + 1) ≤ m * 2 ^ k := by
      rw [Nat.pow_succ, Nat.mul_comm (2 ^ k) 2, ← Nat.mul_assoc]
      exact Nat.mul_le_mul_right _ (by omega)
    omega

theorem dig_end {b n m k : Nat} {l : List UInt8} (h : DigInv b n m k l) (hc : 70 ≤ k ∨ (k ≠ 0 ∧ m = 0)) : l = digB b n := by
  obtain ⟨h1, h2⟩ := h
  have hm : m = 0 := by
    rcases hc with hc | hc
    · rcases Nat.eq_zero_or_pos m with h0 | h0
      · exact h0
      · have a : 2 ^ 70 ≤ 2 ^ k := Nat.pow_le_pow_right (by decide) hc
        have b : 1 * 2 ^ k ≤ m * 2 ^ k := Nat.mul_le_mul_right _ h0
        omega
    · exact hc.2
  rw [if_pos (by omega)] at h1
  rw [h1]; rfl

theorem hex_cons (m b : Int) (l : List UInt8) (h1 : 0 ≤ m % b) (h2 : m % b < 16) :
    (ByteArray.mk #[48, 49, 50, 51, 52, 53, 54, 55, 56, 57, 97, 98, 99, 100, 101, 102]).extract (m % b).toNat (m % b + 1).toNat ++ ⟨l.toArray⟩ = ⟨(dch (m % b).toNat :: l).toArray⟩ := by
  have e := hex_at ⟨(m % b).toNat, by omega⟩
  simp only at e
  rw [show (m % b + 1).toNat = (m % b).toNat + 1 by omega]
  unfold hexText at e
  rw [e, ByteArray.mk_append_mk]; rfl

theorem toNat_div (m b : Int) (h1 : 0 ≤ m) (h2 : 0 ≤ b) : m.toNat / b.toNat = (m / b).toNat := by
  obtain ⟨x, rfl⟩ := Int.eq_ofNat_of_zero_le h1
  obtain ⟨y, rfl⟩ := Int.eq_ofNat_of_zero_le h2
  rw [← Int.natCast_ediv, Int.toNat_natCast, Int.toNat_natCast, Int.toNat_natCast]
theorem toNat_mod (m b : Int) (h1 : 0 ≤ m) (h2 : 0 ≤ b) : m.toNat % b.toNat = (m % b).toNat := by
  obtain ⟨x, rfl⟩ := Int.eq_ofNat_of_zero_le h1
  obtain ⟨y, rfl⟩ := Int.eq_ofNat_of_zero_le h2
  rw [← Int.natCast_emod, Int.toNat_natCast, Int.toNat_natCast, Int.toNat_natCast]
theorem ret_txt {a b : List UInt8} (h : a = b) : Ending.returned (.string ⟨a.toArray⟩) = .returned (.string ⟨b.toArray⟩) := by rw [h]

set_option maxHeartbeats 1000000 in
theorem refDigits_any (n b : Int) (w : World) (h1 : 0 ≤ n) (h2 : n ≤ 18446744073709551615) (h3 : 2 ≤ b) (h4 : b ≤ 16) :
    Calls Tryz.prog 51 #[.int .u64 n, .int .u64 b] w fun e w' => e = .returned (.string ⟨(digB b.toNat n.toNat).toArray⟩) ∧ ∃ k, w' = w.drewN k := by
  go_enter Tryz.func51, Tryz.ntmps51
  go_wp2
  go_loopw [0, 5, 6] (fun a s i wr => ∃ (m k : Int) (l : List UInt8), a = .int .u64 m ∧ i = .int .i64 k ∧ s = .string ⟨l.toArray⟩ ∧ 0 ≤ m ∧ m ≤ 18446744073709551615 ∧ 0 ≤ k ∧ k ≤ 70 ∧ l.length ≤ k ∧ Hid (DigInv b.toNat n.toNat m.toNat k.toNat l) ∧ ∃ j, wr = w.drewN j) (fun _ _ i _ => (70 - intOf i).toNat)
  case atStart => exact ⟨n, 0, [], rfl, rfl, rfl, h1, h2, by omega, by omega, by simp, Lib.hid (dig_start _ _ (by omega)), 0, rfl⟩
  case round =>
    obtain ⟨m, k, l, rfl, rfl, rfl, m0, m1, k0, k1, hl, hinv, j, rfl⟩ := hrel
    by_cases c : k < 70 ∧ (k = 0 ∨ 0 < m)
    · obtain ⟨c0, c1⟩ := c
      have r0 : 0 ≤ m % b := Int.emod_nonneg _ (by omega)
      have r1 : m % b < b := Int.emod_lt_of_pos _ (by omega)
      have q0 : 0 ≤ m / b := Int.ediv_nonneg (by omega) (by omega)
      have q1 : m / b ≤ m := Int.ediv_le_self _ (by omega)
      have ST := Lib.hid (dig_step (by omega) hinv.out (by omega))
      rw [toNat_div m b m0 (by omega), toNat_mod m b m0 (by omega), show k.toNat + 1 = (k + 1).toNat by omega] at ST
      by_cases c2 : k = 0
      · subst c2
        clear c1
        go_wp2
        go_quiet (fail)
        go_wp2
        rw [hex_cons m b l r0 (by omega)]
        go_roundw
        case rel => exact ⟨m / b, 1, _, rfl, rfl, rfl, by omega, by omega, by omega, by omega, by simp only [List.length_cons]; omega, ST, _, rfl⟩
        case measure => simp [intOf]
      · have c1i : (k == 0) = false := beq_eq_false_iff_ne.2 c2
        have c3 : 0 < m := by omega
        clear c1 c2
        go_wp2
        go_quiet (fail)
        go_wp2
        rw [hex_cons m b l r0 (by omega)]
        go_roundw
        case rel => exact ⟨m / b, k + 1, _, rfl, rfl, rfl, by omega, by omega, by omega, by omega, by simp only [List.length_cons]; omega, ST, _, rfl⟩
        case measure => simp [intOf]; omega
    · have EN := Lib.hid (dig_end hinv.out (by omega))
      by_cases c0 : k < 70
      · have c1i : (k == 0) = false := beq_eq_false_iff_ne.2 (by omega)
        have c2 : m ≤ 0 := by omega
        clear c
        go_wp2
        go_ret
        exact ⟨ret_txt EN.out, j, rfl⟩
      · clear c
        go_wp2
        go_ret
        exact ⟨ret_txt EN.out, j, rfl⟩
end Go.Proofs.YtigkdehaepenhaaGreatDoor.N

namespace Go.Proofs.YtigkdehaepenhaaGreatDoor.N
open Go.RowKit

theorem digB_length (b : Nat) (hb : 2 ≤ b) : ∀ (k n : Nat), n < 2 ^ (k + 1) → (digB b n).length ≤ k + 1
  | 0, n, h => by rw [digB, dif_pos (by left; simp at h; omega)]; simp
  | k + 1, n, h => by
    by_cases hn : n < b
    · rw [digB, dif_pos (.inl hn)]; simp
    · have e : n / b ≤ n / 2 := Nat.div_le_div_left hb (by decide)
      have := digB_length b hb k (n / b) (by rw [Nat.pow_succ] at h; omega)
      rw [digB, dif_neg (by omega), List.length_append]
      simp only [List.length_cons, List.length_nil]; omega

theorem digB_ten (n : Nat) : digB 10 n = Lib.decDigits n := by
  induction n using Nat.strongRecOn with
  | _ n ih =>
    rw [digB, Lib.decDigits]
    by_cases h : n < 10
    · rw [dif_pos (.inl h), dif_pos h, dch, if_pos h]
    · rw [dif_neg (by omega), dif_neg h, ih (n / 10) (by omega), dch, if_pos (by omega)]

theorem digB_size (b n : Int) (hb : 2 ≤ b) (hn : n ≤ 18446744073709551615) : (digB b.toNat n.toNat).length ≤ 64 :=
  digB_length b.toNat (by omega) 63 n.toNat (by omega)

set_option maxHeartbeats 400000 in
theorem refDec_any (n : Int) (w : World) (h1 : -9223372036854775808 ≤ n) (h2 : n ≤ 9223372036854775807) :
    Calls Tryz.prog 50 #[.int .i64 n] w fun e w' => e = .returned (.string ⟨(Lib.itoa n).toArray⟩) ∧ ∃ k, w' = w.drewN k := by
  by_cases hn : 0 ≤ n
  · go_enter Tryz.func50, Tryz.ntmps50
    go_wp2_with fail
    refine (refDigits_any _ _ _ (by omega) (by omega) (by omega) (by omega)).mono ?_
    rintro e w' ⟨rfl, k, rfl⟩
    have E := Lib.hid (show digB (10 : Int).toNat n.toNat = Lib.itoa n by rw [show (10 : Int).toNat = 10 from rfl, digB_ten, Lib.itoa, if_neg (by omega)])
    rw [E.out]
    go_wp2_with fail
    go_ret
    exact ⟨rfl, k, rfl⟩
  · go_enter Tryz.func50, Tryz.ntmps50
    go_wp2_with fail
    refine (refDigits_any _ _ _ (by omega) (by omega) (by omega) (by omega)).mono ?_
    rintro e w' ⟨rfl, k, rfl⟩
    have hz := digB_size 10 (-(n + 1) + 1) (by omega) (by omega)
    have E := Lib.hid (show (45 : UInt8) :: digB (10 : Int).toNat (-(n + 1) + 1).toNat = Lib.itoa n by rw [show (10 : Int).toNat = 10 from rfl, digB_ten, Lib.itoa, if_pos (by omega), show (-(n + 1) + 1).toNat = n.natAbs by omega])
    generalize digB (10 : Int).toNat (-(n + 1) + 1).toNat = l at *
    have hadd := run_string_add_sum (P := Tryz.prog) (w.drewN k) ⟨#[45]⟩ ⟨l.toArray⟩ (by show 1 + l.toArray.size ≤ _; simp; omega)
    rw [show (⟨#[45]⟩ : ByteArray) ++ ⟨l.toArray⟩ = ⟨(45 :: l).toArray⟩ by rw [show (⟨#[45]⟩ : ByteArray) = ⟨([45] : List UInt8).toArray⟩ from rfl, ByteArray.mk_append_mk]; rfl, E.out] at hadd
    go_wp2_with fail
    go_ret
    exact ⟨rfl, k, rfl⟩
end Go.Proofs.YtigkdehaepenhaaGreatDoor.N

namespace Go.Proofs.YtigkdehaepenhaaGreatDoor.N
open Go.RowKit

/-- What the loop keeps in memory: a row of 65 bytes of the call's own, of which those from place i on are l. -/
structure Row65 (w wr : World) (B : Nat) (i : Int) (l : List UInt8) : Prop where
  bel : Below B w wr
  lt : B < wr.heap.size
  cell : ∀ t : Nat, t < 65 → ∃ z : Int, wr.cell? ⟨B, t, none⟩ = some (.int .u8 z)
  free : ∀ t : Nat, t < 65 → wr.frozen? ⟨B, t, none⟩ = false
  len : i.toNat + l.length = 65
  held : ∀ j : Nat, j < l.length → wr.cell? ⟨B, i.toNat + j, none⟩ = some (.int .u8 ((l.getD j 0).toNat : Int))

theorem pow_eight (w : World) : Calls Tryz.prog 159 #[.int .i64 8] w fun e w' => e = .returned (.bool true) ∧ w = w' := by
  have e8 : (bits BinOp.and IntKind.i64 8 7 == 0) = true := by decide +kernel
  go_enter Tryz.func159, Tryz.ntmps159
  go_wp2
  go_ret
  exact ⟨by rw [← e8]; rfl, rfl⟩
theorem pow_sixteen (w : World) : Calls Tryz.prog 159 #[.int .i64 16] w fun e w' => e = .returned (.bool true) ∧ w = w' := by
  have e8 : (bits BinOp.and IntKind.i64 16 15 == 0) = true := by decide +kernel
  go_enter Tryz.func159, Tryz.ntmps159
  go_wp2
  go_ret
  exact ⟨by rw [← e8]; rfl, rfl⟩

theorem TzTab.alloc {w : World} (h : TzTab w) (o : Obj) : TzTab (w.alloc o) := by
  have hb : Below w.heap.size w (w.alloc o) := (Below.refl _ _).alloc (Nat.le_refl _) o
  exact ⟨by rw [hb.cell (Lib.lt_of_cell h.1)]; exact h.1, by rw [hb.cell (Lib.lt_of_cell h.2)]; exact h.2⟩

theorem Row65.start (w : World) : Row65 w (w.alloc (.cells Tryz.zeroCells202 202)) w.heap.size 65 [] := by
  have e : Tryz.zeroCells202 = Array.replicate 65 (.int .u8 0) := by kernel_rfl
  refine ⟨(Below.refl _ _).alloc (Nat.le_refl _) _, by simp, fun t ht => ⟨0, ?_⟩, fun t _ => World.frozen?_alloc_new _ _ _ _, by decide, fun j hj => by simp at hj⟩
  rw [World.cell?_alloc_new, e, Array.getElem?_replicate, if_pos ht]

theorem Row65.store {w wr : World} {B : Nat} {k : Int} {l : List UInt8} (h : Row65 w wr B k l) (h1 : 1 ≤ k) (d : UInt8) :
    Row65 w (wr.setCell ⟨B, k.toNat - 1, none⟩ (.int .u8 (d.toNat : Int))) B (k - 1) (d :: l) := by
  have hl := h.len
  have hk : k.toNat - 1 < 65 := by omega
  have ek : (k - 1).toNat = k.toNat - 1 := by omega
  obtain ⟨z, hz⟩ := h.cell _ hk
  have other : ∀ t : Nat, t ≠ k.toNat - 1 → (wr.setCell ⟨B, k.toNat - 1, none⟩ (.int .u8 (d.toNat : Int))).cell? ⟨B, t, none⟩ = wr.cell? ⟨B, t, none⟩ := fun t ht =>
    World.cell?_setCell_other _ _ _ _ (by intro e; injection e with _ e2; omega)
  refine ⟨h.bel.setCell (Nat.le_refl _) _, by rw [World.size_setCell]; exact h.lt, fun t ht => ?_, fun t ht => by rw [World.frozen?_setCell]; exact h.free t ht, by rw [List.length_cons]; omega, fun j hj => ?_⟩
  · by_cases e : t = k.toNat - 1
    · subst e; exact ⟨_, World.cell?_setCell_same _ _ _ hz⟩
    · rw [other t e]; exact h.cell t ht
  · rw [ek]
    cases j with
    | zero => exact World.cell?_setCell_same _ _ _ hz
    | succ i =>
      have hi : i < l.length := by simpa using hj
      rw [other _ (by omega), show k.toNat - 1 + (i + 1) = k.toNat + i by omega, h.held i hi]
      simp

def digText : ByteArray := ⟨#[48, 49, 50, 51, 52, 53, 54, 55, 56, 57, 97, 98, 99, 100, 101, 102, 103, 104, 105, 106, 107, 108, 109, 110, 111, 112, 113, 114, 115, 116, 117, 118, 119, 120, 121, 122]⟩
theorem digText_at : ∀ d : Fin 16, digText.data.toList.getD d.val 0 = dch d.val := by decide +kernel

theorem dig_index (P : Program) (t : TypeId) (ht : P.underlying t = some .string) (z : Int) (d : Nat) (hz : z = (d : Int)) (hd : d < 16) (W : World) :
    (Instr.index t (.string ⟨#[48, 49, 50, 51, 52, 53, 54, 55, 56, 57, 97, 98, 99, 100, 101, 102, 103, 104, 105, 106, 107, 108, 109, 110, 111, 112, 113, 114, 115, 116, 117, 118, 119, 120, 121, 122]⟩) (.int .u64 z)).run P W = .ok (.int .u8 ((dch d).toNat : Int)) W := by
  subst hz
  have hs : digText.size = 36 := by decide +kernel
  show (Instr.index t (.string digText) (.int .u64 (d : Int))).run P W = _
  rw [run_index_string W t digText .u64 _ ht, dif_pos ⟨by omega, by rw [hs]; omega⟩]
  simp only [Int.toNat_natCast]
  rw [Lib.getD_at digText d (by rw [hs]; omega)]
  have := digText_at ⟨d, hd⟩
  simp only at this
  rw [this]

theorem arr65 : Tryz.prog.arrayLen 202 = 65 := by simp [Program.arrayLen, Tryz.underlying202]
theorem arrT : Tryz.prog.underlying 202 = some (.array (Tryz.prog.arrayLen 202) (Tryz.prog.elem 202)) := by
  simp [Program.arrayLen, Program.elem, Tryz.underlying202]

theorem tail_slice (B : Nat) (k : Int) (h1 : 1 ≤ k) (h2 : k ≤ 65) (W : World) :
    (Instr.sliceAt 202 (.pointer (some ⟨B, 0, none⟩)) (some (.int .i64 (k - 1))) none none).run Tryz.prog W = .ok (.slice (some ⟨B, k.toNat - 1, none⟩) (65 - (k.toNat - 1)) (65 - (k.toNat - 1))) W := by
  rw [run_sliceAt_array_l W 202 ⟨B, 0, none⟩ arrT .i64 (k - 1) (by omega) (by rw [arr65]; omega), arr65]
  go_simp
  omega

theorem tail_text {w wr : World} {B : Nat} {k : Int} {l : List UInt8} (h : Row65 w wr B (k - 1) l) (h1 : 1 ≤ k) :
    (convert 104 9 (.slice (some ⟨B, k.toNat - 1, none⟩) (65 - (k.toNat - 1)) (65 - (k.toNat - 1)))).run Tryz.prog wr = .ok (.string ⟨l.toArray⟩) wr := by
  have hl := h.len
  have := run_convert_bytes_back (P := Tryz.prog) wr 104 9 5 ⟨B, k.toNat - 1, none⟩ (65 - (k.toNat - 1)) l Tryz.underlying104 Tryz.underlying5 Tryz.underlying9 (fun j hj => by
    rw [Lib.add_plain]
    have := h.held j hj
    rw [show (k - 1).toNat = k.toNat - 1 by omega] at this
    rw [this]
    simp [List.getD_eq_getElem?_getD, hj])
  rw [show l.length = 65 - (k.toNat - 1) by omega] at this
  exact this

theorem dig_len {b n m : Nat} {l : List UInt8} (hb : 2 ≤ b) (hn : n ≤ 18446744073709551615) (h : digB b n = digB b m ++ l) : l.length ≤ 63 := by
  have a := digB_length b hb 63 n (by omega)
  rw [h, List.length_append] at a
  have : 1 ≤ (digB b m).length := by rw [digB]; split <;> simp
  omega

theorem dig_next {b n m : Nat} {l : List UInt8} (hb : 2 ≤ b) (h : digB b n = digB b m ++ l) (hm : b ≤ m) : digB b n = digB b (m / b) ++ (dch (m % b) :: l) := by
  rw [h, digB, dif_neg (by omega)]; simp

theorem dig_last {b n m : Nat} {l : List UInt8} (h : digB b n = digB b m ++ l) (hm : m < b) : dch m :: l = digB b n := by
  rw [h, digB, dif_pos (.inl hm)]; rfl

theorem ret_pair {a b : List UInt8} (h : a = b) : Ending.returned (.tuple #[.slice none 0 0, .string ⟨a.toArray⟩]) = .returned (.tuple #[.slice none 0 0, .string ⟨b.toArray⟩]) := by rw [h]

set_option maxHeartbeats 1000000 in
set_option maxRecDepth 100000 in
theorem bits_eight (n : Int) (w : World) (h1 : 0 ≤ n) (h2 : n ≤ 18446744073709551615) (ht : TzTab w) :
    Calls Tryz.prog 148 #[.slice none 0 0, .int .u64 n, .int .i64 8, .bool false, .bool false] w fun e w' => e = .returned (.tuple #[.slice none 0 0, .string ⟨(digB 8 n.toNat).toArray⟩]) ∧ Below w.heap.size w w' := by
  have HT := Lib.hid ht
  clear ht
  go_enter Tryz.func148, Tryz.ntmps148
  go_wp2_with fail
  refine (pow_eight _).mono ?_
  rintro e w' ⟨rfl, rfl⟩
  go_wp2_with fail
  refine (tz_eight _ (HT.out.alloc _)).mono ?_
  rintro e w' ⟨rfl, rfl⟩
  go_wp2_with fail
  go_loopw [1, 13] (fun u i wr => ∃ (m k : Int) (l : List UInt8), u = .int .u64 m ∧ i = .int .i64 k ∧ 0 ≤ m ∧ m ≤ 18446744073709551615 ∧ 2 ≤ k ∧ k ≤ 65 ∧ Hid (digB 8 n.toNat = digB 8 m.toNat ++ l) ∧ Hid (Row65 w wr w.heap.size k l)) (fun _ i _ => (intOf i).toNat)
  case atStart => exact ⟨n, 65, [], rfl, rfl, h1, h2, by omega, by omega, Lib.hid (by simp), Lib.hid (Row65.start w)⟩
  case round =>
    obtain ⟨m, k, l, rfl, rfl, m0, m1, k0, k1, hd, hr⟩ := hrel
    rename World => wr
    obtain ⟨z, hc⟩ := hr.out.cell (k.toNat - 1) (by omega)
    have hf := hr.out.free (k.toNat - 1) (by omega)
    by_cases c : 8 ≤ m
    · have hx := dig_index Tryz.prog 9 Tryz.underlying9 (bits .and .u64 m 7) (m.toNat % 8) (by rw [u64_and m 7 m0 (by omega) (by omega) (by omega), show (7 : Int).toNat = 2 ^ 3 - 1 from rfl, Nat.and_two_pow_sub_one_eq_mod]) (by omega)
      have ND := Lib.hid (dig_next (by omega) hd.out (show 8 ≤ m.toNat by omega))
      have NL := Lib.hid (dig_len (by omega) (by omega) ND.out)
      have NR := Lib.hid (hr.out.store (by omega) (dch (m.toNat % 8)))
      have hk : 3 ≤ k := by have := NL.out; have := hr.out.len; simp only [List.length_cons] at this NL; have := NL.out; omega
      have em : (m / 8).toNat = m.toNat / 8 := by omega
      have EM := Lib.hid em
      clear em
      go_wp2
      go_roundw
      case rel => exact ⟨m / 8, k - 1, _, rfl, rfl, by omega, by omega, by omega, by omega, by rw [EM.out]; exact ND, NR⟩
      case measure => simp [intOf]; omega
    · have hx := dig_index Tryz.prog 9 Tryz.underlying9 m m.toNat (by omega) (by omega)
      have ND := Lib.hid (dig_last hd.out (show m.toNat < 8 by omega))
      have NR := Lib.hid (hr.out.store (by omega) (dch m.toNat))
      have hsl := tail_slice w.heap.size k (by omega) (by omega)
      have hcv := tail_text NR.out (by omega)
      rw [ND.out] at hcv
      generalize hD : digB 8 n.toNat = D at *
      have HD := Lib.hid hD
      clear hD
      go_wp2
      go_ret2
      exact ⟨ret_pair HD.out.symm, NR.out.bel⟩

set_option maxHeartbeats 1000000 in
set_option maxRecDepth 100000 in
theorem bits_sixteen (n : Int) (w : World) (h1 : 0 ≤ n) (h2 : n ≤ 18446744073709551615) (ht : TzTab w) :
    Calls Tryz.prog 148 #[.slice none 0 0, .int .u64 n, .int .i64 16, .bool false, .bool false] w fun e w' => e = .returned (.tuple #[.slice none 0 0, .string ⟨(digB 16 n.toNat).toArray⟩]) ∧ Below w.heap.size w w' := by
  have HT := Lib.hid ht
  clear ht
  go_enter Tryz.func148, Tryz.ntmps148
  go_wp2_with fail
  refine (pow_sixteen _).mono ?_
  rintro e w' ⟨rfl, rfl⟩
  go_wp2_with fail
  refine (tz_sixteen _ (HT.out.alloc _)).mono ?_
  rintro e w' ⟨rfl, rfl⟩
  go_wp2_with fail
  go_loopw [1, 13] (fun u i wr => ∃ (m k : Int) (l : List UInt8), u = .int .u64 m ∧ i = .int .i64 k ∧ 0 ≤ m ∧ m ≤ 18446744073709551615 ∧ 2 ≤ k ∧ k ≤ 65 ∧ Hid (digB 16 n.toNat = digB 16 m.toNat ++ l) ∧ Hid (Row65 w wr w.heap.size k l)) (fun _ i _ => (intOf i).toNat)
  case atStart => exact ⟨n, 65, [], rfl, rfl, h1, h2, by omega, by omega, Lib.hid (by simp), Lib.hid (Row65.start w)⟩
  case round =>
    obtain ⟨m, k, l, rfl, rfl, m0, m1, k0, k1, hd, hr⟩ := hrel
    rename World => wr
    obtain ⟨z, hc⟩ := hr.out.cell (k.toNat - 1) (by omega)
    have hf := hr.out.free (k.toNat - 1) (by omega)
    by_cases c : 16 ≤ m
    · have hx := dig_index Tryz.prog 9 Tryz.underlying9 (bits .and .u64 m 15) (m.toNat % 16) (by rw [u64_and m 15 m0 (by omega) (by omega) (by omega), show (15 : Int).toNat = 2 ^ 4 - 1 from rfl, Nat.and_two_pow_sub_one_eq_mod]) (by omega)
      have ND := Lib.hid (dig_next (by omega) hd.out (show 16 ≤ m.toNat by omega))
      have NL := Lib.hid (dig_len (by omega) (by omega) ND.out)
      have NR := Lib.hid (hr.out.store (by omega) (dch (m.toNat % 16)))
      have hk : 3 ≤ k := by have := NL.out; have := hr.out.len; simp only [List.length_cons] at this NL; have := NL.out; omega
      have em : (m / 16).toNat = m.toNat / 16 := by omega
      have EM := Lib.hid em
      clear em
      go_wp2
      go_roundw
      case rel => exact ⟨m / 16, k - 1, _, rfl, rfl, by omega, by omega, by omega, by omega, by rw [EM.out]; exact ND, NR⟩
      case measure => simp [intOf]; omega
    · have hx := dig_index Tryz.prog 9 Tryz.underlying9 m m.toNat (by omega) (by omega)
      have ND := Lib.hid (dig_last hd.out (show m.toNat < 16 by omega))
      have NR := Lib.hid (hr.out.store (by omega) (dch m.toNat))
      have hsl := tail_slice w.heap.size k (by omega) (by omega)
      have hcv := tail_text NR.out (by omega)
      rw [ND.out] at hcv
      generalize hD : digB 16 n.toNat = D at *
      have HD := Lib.hid hD
      clear hD
      go_wp2
      go_ret2
      exact ⟨ret_pair HD.out.symm, NR.out.bel⟩

def oneOf (b : Int) : Prop := b = 8 ∨ b = 16

set_option maxHeartbeats 400000 in
theorem formatI_any (n b : Int) (w : World) (h1 : 0 ≤ n) (h2 : n ≤ 18446744073709551615) (hb : oneOf b) (ht : TzTab w) :
    Calls Tryz.prog 131 #[.int .u64 n, .int .i64 b] w fun e w' => e = .returned (.string ⟨(digB b.toNat n.toNat).toArray⟩) ∧ Below w.heap.size w w' := by
  have HT := Lib.hid ht
  clear ht
  rcases hb with rfl | rfl
  · go_enter Tryz.func131, Tryz.ntmps131
    go_wp2_with fail
    refine (bits_eight _ _ h1 h2 HT.out).mono ?_
    rintro e w' ⟨rfl, hb⟩
    have HB := Lib.hid hb
    clear hb
    go_wp2_with fail
    go_ret
    exact ⟨rfl, HB.out⟩
  · go_enter Tryz.func131, Tryz.ntmps131
    go_wp2_with fail
    refine (bits_sixteen _ _ h1 h2 HT.out).mono ?_
    rintro e w' ⟨rfl, hb⟩
    have HB := Lib.hid hb
    clear hb
    go_wp2_with fail
    go_ret
    exact ⟨rfl, HB.out⟩

theorem formatU_any (n b : Int) (w : World) (h1 : 0 ≤ n) (h2 : n ≤ 18446744073709551615) (hb : oneOf b) (ht : TzTab w) :
    Calls Tryz.prog 110 #[.int .u64 n, .int .i64 b] w fun e w' => e = .returned (.string ⟨(digB b.toNat n.toNat).toArray⟩) ∧ Below w.heap.size w w' := by
  have HT := Lib.hid ht
  have HO := Lib.hid hb
  clear ht hb
  go_enter Tryz.func110, Tryz.ntmps110
  go_wp2_with fail
  refine (formatI_any _ _ _ h1 h2 HO.out HT.out).mono ?_
  rintro e w' ⟨rfl, hb⟩
  have HB := Lib.hid hb
  clear hb
  go_wp2_with fail
  go_ret
  exact ⟨rfl, HB.out⟩

theorem oct_any (n : Int) (w : World) (h1 : 0 ≤ n) (h2 : n ≤ 18446744073709551615) (ht : TzTab w) :
    Calls Tryz.prog 83 #[.int .u64 n] w fun e w' => e = .returned (.string ⟨(digB (8 : Int).toNat n.toNat).toArray⟩) ∧ Below w.heap.size w w' := by
  have HT := Lib.hid ht
  clear ht
  go_enter Tryz.func83, Tryz.ntmps83
  go_wp2_with fail
  refine (formatU_any _ _ _ h1 h2 (.inl rfl) HT.out).mono ?_
  rintro e w' ⟨rfl, hb⟩
  have HB := Lib.hid hb
  clear hb
  go_wp2_with fail
  go_ret
  exact ⟨rfl, HB.out⟩


theorem TzTab.keep {w w' : World} (h : TzTab w) (hb : Below w.heap.size w w') : TzTab w' :=
  ⟨by rw [hb.cell (Lib.lt_of_cell h.1)]; exact h.1, by rw [hb.cell (Lib.lt_of_cell h.2)]; exact h.2⟩
end Go.Proofs.YtigkdehaepenhaaGreatDoor.N
