/-
  What math/bits.Div64 returns: the quotient and the rest of hi * 2^64 + lo by y. Conditions: hi < y, all three fit uint64.
  What digits.Percent and the reference's Percent return: the hundredfold by the whole, rounded up and cut. Conditions: the arguments are int64s.
-/
import Derived.Test.YtknfhphhcnbndaaGreatDoorFAdd
import Derived.Test.YtknfhphhcnbndaaGreatDoorShelf
import Derived.Deep.QuietTactic
import Derived.BigQuiet
import Derived.Deep.DeepCutAuto
import Derived.Deep.CutRange
set_option linter.unusedVariables false
set_option linter.unusedSimpArgs false
namespace Go.Proofs.YtknfhphhcnbndaaGreatDoor.N
open Go.RowKit

theorem bitLenAux_le : ∀ (f x : Nat), x < 2 ^ f → x < 2 ^ Lib.bitLenAux f x ∧ (1 ≤ x → 2 ^ Lib.bitLenAux f x ≤ 2 * x) ∧ Lib.bitLenAux f x ≤ f
  | 0, x, h => by simp at h; subst h; simp [Lib.bitLenAux]
  | f + 1, x, h => by
    unfold Lib.bitLenAux
    by_cases h0 : x = 0
    · subst h0; simp
    · rw [if_neg h0]
      rw [Nat.pow_succ] at h
      obtain ⟨a, b, c⟩ := bitLenAux_le f (x / 2) (by omega)
      rw [show 1 + Lib.bitLenAux f (x / 2) = Lib.bitLenAux f (x / 2) + 1 by omega, Nat.pow_succ]
      refine ⟨by omega, fun _ => ?_, by omega⟩
      by_cases h1 : x / 2 = 0
      · have : x = 1 := by omega
        subst this
        have e : ∀ f, Lib.bitLenAux f 0 = 0 := fun f => by cases f <;> simp [Lib.bitLenAux]
        simp [e]
      · have := b (by omega); omega

/-- How far y is shifted so that its upper bit is set. -/
theorem shift_of (y : Nat) (h1 : 1 ≤ y) (h2 : y ≤ 18446744073709551615) : ∃ s : Nat, s ≤ 63 ∧ (64 - (Lib.bitLen ((y : Int)).toNat : Int)) = (s : Int) ∧ 9223372036854775808 ≤ y * 2 ^ s ∧ y * 2 ^ s ≤ 18446744073709551615 := by
  rw [Int.toNat_natCast]
  obtain ⟨a, b, c⟩ := bitLenAux_le 64 y (by omega)
  have b := b h1
  unfold Lib.bitLen
  generalize Lib.bitLenAux 64 y = l at *
  have l1 : 1 ≤ l := by
    rcases Nat.eq_zero_or_pos l with h | h
    · subst h; simp at a; omega
    · exact h
  refine ⟨64 - l, by omega, by omega, ?_, ?_⟩
  · have e : 2 ^ l * 2 ^ (64 - l) = 18446744073709551616 := by rw [← Nat.pow_add, show l + (64 - l) = 64 by omega]
    have : 2 ^ l * 2 ^ (64 - l) ≤ 2 * y * 2 ^ (64 - l) := Nat.mul_le_mul_right _ b
    rw [e, Nat.mul_assoc] at this
    omega
  · have e : 2 ^ l * 2 ^ (64 - l) = 18446744073709551616 := by rw [← Nat.pow_add, show l + (64 - l) = 64 by omega]
    have : (y + 1) * 2 ^ (64 - l) ≤ 2 ^ l * 2 ^ (64 - l) := Nat.mul_le_mul_right _ a
    have hp : 1 ≤ 2 ^ (64 - l) := Nat.one_le_two_pow
    rw [e, Nat.add_mul] at this
    omega

theorem lz_any (x : Int) (w : World) (h0 : 0 ≤ x) (h1 : x ≤ 18446744073709551615) :
    Calls Tryz.prog 198 #[.int .u64 x] w fun e w' => e = .returned (.int .i64 (64 - (Lib.bitLen x.toNat : Int))) ∧ w = w' :=
  (Tryz.bits_LeadingZeros64 x w h0 h1).mono fun _ _ h => ⟨h.1, h.2.symm⟩

/-! ### One half of the long division: Y = n1 * 2^32 + n0, the digit of u * 2^32 + v -/
theorem half_pos {Y n1 n0 : Nat} (hY : Y = n1 * 4294967296 + n0) (h1 : 2147483648 ≤ n1) : 0 < Y := by omega

theorem half_start {Y n1 n0 u v : Nat} (hY : Y = n1 * 4294967296 + n0) (h0 : n0 < 4294967296) (h1 : 2147483648 ≤ n1) (hn : n1 < 4294967296) (hu : u < Y) (hv : v < 4294967296) :
    u / n1 * n1 + (u - u / n1 * n1) = u ∧ u - u / n1 * n1 < 4294967296 ∧ (u * 4294967296 + v) / Y ≤ u / n1 ∧ u / n1 ≤ 4294967297 := by
  have e := Nat.div_add_mod' u n1
  have m := Nat.mod_lt u (show 0 < n1 by omega)
  have hq : u / n1 < 4294967298 := (Nat.div_lt_iff_lt_mul (by omega)).2 (by omega)
  refine ⟨by omega, by omega, ?_, by omega⟩
  refine Nat.le_of_lt_succ ((Nat.div_lt_iff_lt_mul (by omega)).2 ?_)
  generalize u / n1 = q at *
  have : (q + 1) * Y = (q + 1) * n1 * 4294967296 + (q + 1) * n0 := by rw [hY, Nat.mul_add, Nat.mul_assoc]
  have e2 : (q + 1) * n1 = q * n1 + n1 := Nat.succ_mul _ _
  rw [Nat.succ_eq_add_one, this]
  omega

theorem half_step {Y n1 n0 u v q r : Nat} (hY : Y = n1 * 4294967296 + n0) (h1 : 2147483648 ≤ n1) (hu : u < Y) (hv : v < 4294967296)
    (e : q * n1 + r = u) (hc : 4294967296 ≤ q ∨ 4294967296 * r + v < q * n0) : (u * 4294967296 + v) / Y ≤ q - 1 ∧ 1 ≤ q ∧ (q - 1) * n1 + (r + n1) = u := by
  have hY0 := half_pos hY h1
  have k : u * 4294967296 + v < q * Y := by
    rcases hc with hc | hc
    · have : 4294967296 * Y ≤ q * Y := Nat.mul_le_mul_right _ hc
      omega
    · have : q * Y = q * n1 * 4294967296 + q * n0 := by rw [hY, Nat.mul_add, Nat.mul_assoc]
      omega
  have q1 : 1 ≤ q := by
    rcases Nat.eq_zero_or_pos q with h | h
    · subst h; simp at k
    · exact h
  have := (Nat.div_lt_iff_lt_mul hY0).2 k
  refine ⟨by omega, q1, ?_⟩
  obtain ⟨p, rfl⟩ : ∃ p, q = p + 1 := ⟨q - 1, by omega⟩
  rw [Nat.succ_mul] at e
  rw [Nat.add_sub_cancel]; omega

theorem half_end {Y n1 n0 u v q r : Nat} (hY : Y = n1 * 4294967296 + n0) (h1 : 2147483648 ≤ n1) (e : q * n1 + r = u) (hq : (u * 4294967296 + v) / Y ≤ q) (hc : q * n0 ≤ 4294967296 * r + v) : q = (u * 4294967296 + v) / Y := by
  have hY0 := half_pos hY h1
  have : q * Y = q * n1 * 4294967296 + q * n0 := by rw [hY, Nat.mul_add, Nat.mul_assoc]
  have k : q ≤ (u * 4294967296 + v) / Y := (Nat.le_div_iff_mul_le hY0).2 (by omega)
  omega

theorem half_break {Y n1 n0 u v q r : Nat} (hY : Y = n1 * 4294967296 + n0) (h0 : n0 < 4294967296) (h1 : 2147483648 ≤ n1) (e : q * n1 + r = u) (hq : (u * 4294967296 + v) / Y ≤ q) (hl : q ≤ 4294967296) (hr : 4294967296 ≤ r) : q = (u * 4294967296 + v) / Y := by
  refine half_end hY h1 e hq ?_
  have : q * n0 ≤ 4294967296 * n0 := Nat.mul_le_mul_right _ hl
  omega

theorem half_lt {Y u v : Nat} (hu : u < Y) (hv : v < 4294967296) : (u * 4294967296 + v) / Y < 4294967296 :=
  (Nat.div_lt_iff_lt_mul (by omega)).2 (by omega)

/-- What the second half begins with. -/
theorem rest_wrap {Y u v q : Nat} (hq : q = (u * 4294967296 + v) / Y) (hY : Y ≤ 18446744073709551615) (hY0 : 0 < Y) :
    IntKind.u64.wrap (IntKind.u64.wrap (IntKind.u64.wrap ((u : Int) * 4294967296) + (v : Int)) - IntKind.u64.wrap ((q : Int) * (Y : Int))) = (((u * 4294967296 + v) % Y : Nat) : Int) := by
  have e := Nat.div_add_mod' (u * 4294967296 + v) Y
  have m := Nat.mod_lt (u * 4294967296 + v) hY0
  rw [← hq] at e
  simp only [IntKind.wrap_u64]
  have e' : ((q * Y : Nat) : Int) = (q : Int) * (Y : Int) := Int.natCast_mul _ _
  omega

/-- The two halves together. -/
theorem halves {U Y d c : Nat} (hY : 0 < Y) (hU : U = d * 4294967296 + c) :
    U / Y = d / Y * 4294967296 + (d % Y * 4294967296 + c) / Y ∧ U % Y = (d % Y * 4294967296 + c) % Y := by
  subst hU
  have e := Nat.div_add_mod' d Y
  have : d * 4294967296 + c = (d % Y * 4294967296 + c) + Y * (d / Y * 4294967296) := by
    rw [← Nat.mul_assoc, Nat.mul_comm Y]
    generalize d / Y * Y = x at *
    generalize d % Y = y at *
    omega
  rw [this]
  exact ⟨by rw [Nat.add_mul_div_left _ _ hY]; omega, by rw [Nat.add_mul_mod_self_left]⟩

theorem prod_toNat (q : Int) (n : Nat) (h : 0 ≤ q) : ((q.toNat * n : Nat) : Int) = q * (n : Int) := by
  rw [Int.natCast_mul, Int.toNat_of_nonneg h]

theorem cond_toNat {n0 v : Nat} {q r : Int} (h1 : 0 ≤ q) (h2 : 0 ≤ r) (hc : 4294967296 ≤ q ∨ 4294967296 * r + (v : Int) < q * (n0 : Int)) : 4294967296 ≤ q.toNat ∨ 4294967296 * r.toNat + v < q.toNat * n0 := by
  have := prod_toNat q n0 h1
  omega

theorem loop_step {Y n1 n0 u v : Nat} {q r : Int} (hY : Y = n1 * 4294967296 + n0) (h1 : 2147483648 ≤ n1) (hu : u < Y) (hv : v < 4294967296) (hq0 : 0 ≤ q) (hr0 : 0 ≤ r) (e : q.toNat * n1 + r.toNat = u)
    (hc : 4294967296 ≤ q ∨ 4294967296 * r + (v : Int) < q * (n0 : Int)) : (q - 1).toNat * n1 + (r + n1).toNat = u ∧ (u * 4294967296 + v) / Y ≤ (q - 1).toNat ∧ 1 ≤ q := by
  obtain ⟨g1, g2, g3⟩ := half_step hY h1 hu hv e (cond_toNat hq0 hr0 hc)
  rw [show (q - 1).toNat = q.toNat - 1 by omega, show (r + n1).toNat = r.toNat + n1 by omega]
  exact ⟨g3, g1, by omega⟩

theorem loop_break {Y n1 n0 u v : Nat} {q r : Int} (hY : Y = n1 * 4294967296 + n0) (h0 : n0 < 4294967296) (h1 : 2147483648 ≤ n1) (hu : u < Y) (hv : v < 4294967296) (hq0 : 0 ≤ q) (hq4 : q ≤ 4294967297) (hr0 : 0 ≤ r) (e : q.toNat * n1 + r.toNat = u)
    (hc : 4294967296 ≤ q ∨ 4294967296 * r + (v : Int) < q * (n0 : Int)) (h3 : 4294967296 ≤ r + n1) : (q - 1).toNat = (u * 4294967296 + v) / Y := by
  obtain ⟨g1, g2, g3⟩ := loop_step hY h1 hu hv hq0 hr0 e hc
  exact half_break hY h0 h1 g1 g2 (by omega) (by omega)

theorem loop_end {Y n1 n0 u v : Nat} {q r : Int} (hY : Y = n1 * 4294967296 + n0) (h1 : 2147483648 ≤ n1) (hq0 : 0 ≤ q) (hr0 : 0 ≤ r) (e : q.toNat * n1 + r.toNat = u) (hq : (u * 4294967296 + v) / Y ≤ q.toNat)
    (h3 : q * (n0 : Int) ≤ 4294967296 * r + (v : Int)) : q.toNat = (u * 4294967296 + v) / Y := by
  refine half_end hY h1 e hq ?_
  have := prod_toNat q n0 hq0
  omega

theorem prod_lt {q : Int} {n : Nat} (h0 : 0 ≤ q) (h1 : ¬ 4294967296 ≤ q) (h2 : n < 4294967296) : 0 ≤ q * (n : Int) ∧ q * (n : Int) ≤ 18446744073709551615 := by
  have a := prod_toNat q n h0
  have b : q.toNat * n ≤ 4294967295 * 4294967295 := Nat.mul_le_mul (by omega) (by omega)
  omega

/-- The numbers that the long division begins with. -/
structure DivIn (hi lo y s Y n1 n0 u v1 v0 : Nat) : Prop where
  hY : Y = n1 * 4294967296 + n0
  h0 : n0 < 4294967296
  h1 : 2147483648 ≤ n1
  hn : n1 < 4294967296
  hu : u < Y
  hv1 : v1 < 4294967296
  hv0 : v0 < 4294967296
  hs : Y = y * 2 ^ s
  hU : (hi * 18446744073709551616 + lo) * 2 ^ s = (u * 4294967296 + v1) * 4294967296 + v0

theorem DivIn.posY {hi lo y s Y n1 n0 u v1 v0 : Nat} (d : DivIn hi lo y s Y n1 n0 u v1 v0) : 0 < Y := by have := d.hu; omega
theorem DivIn.leY {hi lo y s Y n1 n0 u v1 v0 : Nat} (d : DivIn hi lo y s Y n1 n0 u v1 v0) : Y ≤ 18446744073709551615 := by have := d.hY; have := d.h0; have := d.hn; omega

theorem div_in (hi lo y s : Nat) (s1 : s ≤ 63) (h2 : hi < y) (h4 : lo ≤ 18446744073709551615) (s3 : 9223372036854775808 ≤ y * 2 ^ s) (s4 : y * 2 ^ s ≤ 18446744073709551615) :
    ∃ Y n1 n0 u v1 v0 : Nat, DivIn hi lo y s Y n1 n0 u v1 v0 ∧ (y : Int) * 2 ^ s = Y ∧ (y : Int) * 2 ^ s / 4294967296 = n1 ∧ bits .and .u64 ((y : Int) * 2 ^ s) 4294967295 = n0 ∧
      bits .or .u64 (IntKind.u64.wrap ((hi : Int) * 2 ^ s)) ((lo : Int) / 2 ^ (64 - s)) = u ∧ IntKind.u64.wrap ((lo : Int) * 2 ^ s) / 4294967296 = v1 ∧ bits .and .u64 (IntKind.u64.wrap ((lo : Int) * 2 ^ s)) 4294967295 = v0 := by
  have eM : (18446744073709551616 : Nat) = 2 ^ (64 - s) * 2 ^ s := by rw [← Nat.pow_add, show 64 - s + s = 64 by omega]
  have p1 : 0 < 2 ^ s := Nat.two_pow_pos s
  have p2 : 0 < 2 ^ (64 - s) := Nat.two_pow_pos _
  have hlt : lo / 2 ^ (64 - s) < 2 ^ s := (Nat.div_lt_iff_lt_mul p2).2 (by rw [Nat.mul_comm, ← eM]; omega)
  have hh : (hi + 1) * 2 ^ s ≤ y * 2 ^ s := Nat.mul_le_mul_right _ h2
  rw [Nat.succ_mul] at hh
  have cy : (y : Int) * 2 ^ s = ((y * 2 ^ s : Nat) : Int) := by simp
  have ch : (hi : Int) * 2 ^ s = ((hi * 2 ^ s : Nat) : Int) := by simp
  have cl : (lo : Int) * 2 ^ s = ((lo * 2 ^ s : Nat) : Int) := by simp
  have cd : (lo : Int) / 2 ^ (64 - s) = ((lo / 2 ^ (64 - s) : Nat) : Int) := by simp
  have wl : IntKind.u64.wrap ((lo : Int) * 2 ^ s) = ((lo * 2 ^ s % 18446744073709551616 : Nat) : Int) := by rw [IntKind.wrap_u64, cl]; omega
  have wh : IntKind.u64.wrap ((hi : Int) * 2 ^ s) = ((hi * 2 ^ s : Nat) : Int) := by rw [IntKind.wrap_u64, ch]; omega
  have el : lo * 2 ^ s = lo / 2 ^ (64 - s) * 18446744073709551616 + lo * 2 ^ s % 18446744073709551616 := by
    have a := Nat.div_add_mod' (lo * 2 ^ s) 18446744073709551616
    have b : lo * 2 ^ s / 18446744073709551616 = lo / 2 ^ (64 - s) := by rw [eM, Nat.mul_div_mul_right _ _ p1]
    rw [b] at a; omega
  refine ⟨y * 2 ^ s, y * 2 ^ s / 4294967296, y * 2 ^ s % 4294967296, hi * 2 ^ s + lo / 2 ^ (64 - s), lo * 2 ^ s % 18446744073709551616 / 4294967296, lo * 2 ^ s % 18446744073709551616 % 4294967296, ?_, cy, by rw [cy]; omega, ?_, ?_, by rw [wl]; omega, ?_⟩
  · refine ⟨by omega, by omega, by omega, by omega, by omega, by omega, by omega, rfl, ?_⟩
    rw [Nat.add_mul, Nat.mul_right_comm]
    omega
  · rw [cy, and_low32 _ (by omega) (by omega)]; omega
  · rw [wh, cd, u64_or _ _ (by omega) (by omega) (by omega) (by omega), Int.toNat_natCast, Int.toNat_natCast, Nat.mul_comm, ← Nat.two_pow_add_eq_or_of_lt hlt]
  · rw [wl, and_low32 _ (by omega) (by omega)]; omega

theorem div_fin {hi lo y s Y n1 n0 u v1 v0 q1 R q0 : Nat} (d : DivIn hi lo y s Y n1 n0 u v1 v0) (hq1 : q1 = (u * 4294967296 + v1) / Y) (hR : R = (u * 4294967296 + v1) % Y) (hq0 : q0 = (R * 4294967296 + v0) / Y) :
    (hi * 18446744073709551616 + lo) / y = q1 * 4294967296 + q0 ∧ (hi * 18446744073709551616 + lo) % y = (R * 4294967296 + v0) % Y / 2 ^ s := by
  obtain ⟨a, b⟩ := halves d.posY d.hU
  rw [← hq1, ← hR, ← hq0] at a
  rw [← hR] at b
  have p1 : 0 < 2 ^ s := Nat.two_pow_pos s
  rw [d.hs, Nat.mul_div_mul_right _ _ p1] at a
  rw [d.hs, Nat.mul_mod_mul_right] at b
  rw [d.hs, ← b, Nat.mul_div_cancel _ p1]
  exact ⟨a, rfl⟩

theorem ret_two {a b c d : Int} (h1 : a = c) (h2 : b = d) : Ending.returned (.tuple #[.int .u64 a, .int .u64 b]) = .returned (.tuple #[.int .u64 c, .int .u64 d]) := by rw [h1, h2]

def divPost (hi lo y : Nat) (w : World) (e : Ending) (w' : World) : Prop :=
  e = .returned (.tuple #[.int .u64 (((hi * 18446744073709551616 + lo) / y : Nat) : Int), .int .u64 (((hi * 18446744073709551616 + lo) % y : Nat) : Int)]) ∧ w = w'

theorem div_facts (u n : Nat) : (u : Int) / (n : Int) * (n : Int) ≤ u ∧ (0 : Int) ≤ (u : Int) / (n : Int) * (n : Int) := by
  have : (u : Int) / (n : Int) * (n : Int) = ((u / n * n : Nat) : Int) := by simp
  have := Nat.div_mul_le_self u n
  omega

set_option maxHeartbeats 1000000 in
set_option maxRecDepth 100000 in
theorem div_any (hi lo y : Nat) (w : World) (h1 : 1 ≤ hi) (h2 : hi < y) (h3 : y ≤ 18446744073709551615) (h4 : lo ≤ 18446744073709551615) :
    Calls Tryz.prog 149 #[.int .u64 hi, .int .u64 lo, .int .u64 y] w (divPost hi lo y w) := by
  obtain ⟨s, s1, s2, s3, s4⟩ := shift_of y (by omega) h3
  have S2 := Lib.hid s2
  have D := Lib.hid (div_in hi lo y s s1 h2 h4 s3 s4)
  have y0 : ((y : Int) == 0) = false := beq_eq_false_iff_ne.2 (by omega)
  have y1 : ((hi : Int) == 0) = false := beq_eq_false_iff_ne.2 (by omega)
  have y2 : (0 : Int) ≤ (y : Int) * 2 ^ s := by have : ((y * 2 ^ s : Nat) : Int) = (y : Int) * 2 ^ s := by simp
                                                omega
  have y3 : (y : Int) * 2 ^ s ≤ 18446744073709551615 := by have : ((y * 2 ^ s : Nat) : Int) = (y : Int) * 2 ^ s := by simp
                                                           omega
  clear s2 s3 s4
  go_enter Tryz.func149, Tryz.ntmps149
  go_wp2_with fail
  refine (lz_any _ _ (by omega) (by omega)).mono ?_
  rintro e w' ⟨rfl, rfl⟩
  rw [S2.out]
  go_upto_region 14 with fail
  go_cut [2, 9, 10, 11, 12, 13, 14] from 34 to 58 (fun a2 a9 a10 a11 _ a13 a14 wx => ∃ Y n1 n0 u v1 v0 : Nat, DivIn hi lo y s Y n1 n0 u v1 v0 ∧ a2 = .int .u64 Y ∧ a9 = .int .u64 n1 ∧ a10 = .int .u64 n0 ∧ a11 = .int .u64 u ∧ a13 = .int .u64 v1 ∧ a14 = .int .u64 v0 ∧ w = wx)
  case first =>
    go_wp2_with fail
    go_meet
    obtain ⟨Y, n1, n0, u, v1, v0, d, e1, e2, e3, e4, e5, e6⟩ := D.out
    exact ⟨Y, n1, n0, u, v1, v0, d, by rw [e1], by rw [e2], by rw [e3], by rw [e4], by rw [e5], by rw [e6], rfl⟩
  case rest =>
    clear D y0 y1 y2 y3
    obtain ⟨Y, n1, n0, u, v1, v0, d, rfl, rfl, rfl, rfl, rfl, rfl, rfl⟩ := hcut
    have b0 := d.h0; have b1 := d.h1; have b2 := d.hn; have b3 := d.hu; have b4 := d.hv1; have b5 := d.hv0
    have bY : Y ≤ 18446744073709551615 := by have := d.hY; omega
    have z1 : ((n1 : Int) == 0) = false := beq_eq_false_iff_ne.2 (by omega)
    obtain ⟨f1, f2⟩ := div_facts u n1
    have f3 : (u : Int) / (n1 : Int) ≤ u := Int.ediv_le_self _ (by omega)
    have f4 : (0 : Int) ≤ (u : Int) / (n1 : Int) := Int.ediv_nonneg (by omega) (by omega)
    have hu64 : (u : Int) ≤ 18446744073709551615 := by omega
    have hn1 : (2147483648 : Int) ≤ n1 := by omega
    have hn2 : (n1 : Int) < 4294967296 := by omega
    have hn3 : (0 : Int) ≤ n0 := by omega
    have hn4 : (n0 : Int) < 4294967296 := by omega
    have hv2 : (0 : Int) ≤ v1 := by omega
    have hv3 : (v1 : Int) < 4294967296 := by omega
    have B := Lib.hid (And.intro b3 b4)
    have s1' := Lib.hid s1
    clear h1 h2 h3 h4 s1 b0 b1 b2 b3 b4 b5 bY
    go_upto_block 0 with fail
    clear f1 f2 f3 f4
    go_cut [15, 16] from 67 to 85 (fun a15 _ wx => ∃ q : Nat, a15 = .int .u64 q ∧ Hid (q = (u * 4294967296 + v1) / Y) ∧ w = wx)
    case first =>
      go_wp2_with fail
      go_loop [15, 16] (fun a b => ∃ q r : Int, a = .int .u64 q ∧ b = .int .u64 r ∧ Hid (q.toNat * n1 + r.toNat = u) ∧ Hid ((u * 4294967296 + v1) / Y ≤ q.toNat) ∧ 0 ≤ q ∧ q ≤ 4294967297 ∧ 0 ≤ r ∧ r < 4294967296) (fun a _ => (intOf a).toNat)
      case atStart =>
        obtain ⟨g1, g2, g3, g4⟩ := half_start d.hY d.h0 d.h1 d.hn d.hu d.hv1
        have e1 : ((u : Int) / n1).toNat = u / n1 := by rw [← Int.natCast_ediv, Int.toNat_natCast]
        have e2 : ((u : Int) / n1) * n1 = ((u / n1 * n1 : Nat) : Int) := by simp
        have e3 := Nat.div_mul_le_self u n1
        have e4 : ((u : Int) - (u : Int) / n1 * n1).toNat = u - u / n1 * n1 := by rw [e2]; omega
        have e5 : (u : Int) / n1 = ((u / n1 : Nat) : Int) := by simp
        exact ⟨(u : Int) / n1, (u : Int) - (u : Int) / n1 * n1, rfl, rfl, Lib.hid (by rw [e1, e4]; exact g1), Lib.hid (by rw [e1]; exact g3), by omega, by omega, by omega, by omega⟩
      case round =>
        obtain ⟨q, r, rfl, rfl, hq1, hq2, hq3, hq4, hr0, hr⟩ := hrel
        have ST := Lib.hid (fun hc => loop_step d.hY d.h1 d.hu d.hv1 hq3 hr0 hq1.out hc)
        have BR := Lib.hid (fun hc h3 => loop_break d.hY d.h0 d.h1 d.hu d.hv1 hq3 hq4 hr0 hq1.out hc h3)
        have EN := Lib.hid (fun h3 => loop_end d.hY d.h1 hq3 hr0 hq1.out hq2.out h3)
        have PR := Lib.hid (fun h => prod_lt hq3 h d.h0)
        generalize hN : (n1 : Int) = N1 at *
        clear hN
        generalize hM : (n0 : Int) = N0 at *
        clear hM
        generalize hV : (v1 : Int) = V1 at *
        clear hV
        by_cases c1 : 4294967296 ≤ q
        · have c1i : decide (4294967296 ≤ q) = true := by simp; exact c1
          obtain ⟨s1, s2, s3⟩ := ST.out (.inl c1)
          have S1 := Lib.hid s1; have S2 := Lib.hid s2
          clear s1 s2
          by_cases c3 : 4294967296 ≤ r + N1
          · have c3i : decide (4294967296 ≤ r + N1) = true := by simp; exact c3
            have F := Lib.hid (BR.out (.inl c1) c3)
            clear BR EN PR ST
            go_wp2
            go_meet
            exact ⟨(q - 1).toNat, by rw [Int.toNat_of_nonneg (by omega)], F, rfl⟩
          · have c3i : decide (4294967296 ≤ r + N1) = false := by simp; omega
            clear BR EN PR ST
            go_wp2
            go_round
            case rel => exact ⟨q - 1, r + N1, rfl, rfl, S1, S2, by omega, by omega, by omega, by omega⟩
            case measure => simp [intOf]; omega
        · have c1i : decide (4294967296 ≤ q) = false := by simp; omega
          obtain ⟨p1, p2⟩ := PR.out c1
          by_cases c2 : 4294967296 * r + V1 < q * N0
          · obtain ⟨s1, s2, s3⟩ := ST.out (.inr c2)
            have S1 := Lib.hid s1; have S2 := Lib.hid s2
            clear s1 s2
            by_cases c3 : 4294967296 ≤ r + N1
            · have c3i : decide (4294967296 ≤ r + N1) = true := by simp; exact c3
              have F := Lib.hid (BR.out (.inr c2) c3)
              clear BR EN PR ST
              go_wp2
              go_meet
              exact ⟨(q - 1).toNat, by rw [Int.toNat_of_nonneg (by omega)], F, rfl⟩
            · have c3i : decide (4294967296 ≤ r + N1) = false := by simp; omega
              clear BR EN PR ST
              go_wp2
              go_round
              case rel => exact ⟨q - 1, r + N1, rfl, rfl, S1, S2, by omega, by omega, by omega, by omega⟩
              case measure => simp [intOf]; omega
          · have F := Lib.hid (EN.out (by omega))
            clear BR EN PR ST
            go_wp2
            go_meet
            exact ⟨q.toNat, by rw [Int.toNat_of_nonneg (by omega)], F, rfl⟩
    case rest =>
      obtain ⟨q1, rfl, hq1, rfl⟩ := hcut
      go_upto_region 21 with fail
      go_cut [17] from 86 to 93 (fun a17 wx => ∃ R : Nat, a17 = .int .u64 R ∧ Hid (R = (u * 4294967296 + v1) % Y) ∧ w = wx)
      case first =>
        go_wp2_with fail
        go_meet
        exact ⟨_, congrArg (Value.int .u64) (rest_wrap hq1.out d.leY d.posY), Lib.hid rfl, rfl⟩
      case rest =>
        obtain ⟨R, rfl, hR0, rfl⟩ := hcut
        have hR : R < Y := by rw [hR0.out]; exact Nat.mod_lt _ d.posY
        have leY := d.leY
        obtain ⟨f1, f2⟩ := div_facts R n1
        have f3 : (R : Int) / (n1 : Int) ≤ R := Int.ediv_le_self _ (by omega)
        have f4 : (0 : Int) ≤ (R : Int) / (n1 : Int) := Int.ediv_nonneg (by omega) (by omega)
        have hu65 : (R : Int) ≤ 18446744073709551615 := by omega
        have hv4 : (0 : Int) ≤ v0 := by omega
        have hv5 : (v0 : Int) < 4294967296 := by have := d.hv0; omega
        clear leY
        have HR := Lib.hid hR
        clear hR
        go_upto_block 2 with fail
        clear f1 f2 f3 f4
        go_cut [18, 16] from 102 to 120 (fun a18 _ wx => ∃ q : Nat, a18 = .int .u64 q ∧ Hid (q = (R * 4294967296 + v0) / Y) ∧ w = wx)
        case first =>
          have hR := HR.out
          have HR := Lib.hid hR
          go_wp2_with fail
          go_loop [18, 16] (fun a b => ∃ q r : Int, a = .int .u64 q ∧ b = .int .u64 r ∧ Hid (q.toNat * n1 + r.toNat = R) ∧ Hid ((R * 4294967296 + v0) / Y ≤ q.toNat) ∧ 0 ≤ q ∧ q ≤ 4294967297 ∧ 0 ≤ r ∧ r < 4294967296) (fun a _ => (intOf a).toNat)
          case atStart =>
            obtain ⟨g1, g2, g3, g4⟩ := half_start d.hY d.h0 d.h1 d.hn hR d.hv0
            have e1 : ((R : Int) / n1).toNat = R / n1 := by rw [← Int.natCast_ediv, Int.toNat_natCast]
            have e2 : ((R : Int) / n1) * n1 = ((R / n1 * n1 : Nat) : Int) := by simp
            have e3 := Nat.div_mul_le_self R n1
            have e4 : ((R : Int) - (R : Int) / n1 * n1).toNat = R - R / n1 * n1 := by rw [e2]; omega
            have e5 : (R : Int) / n1 = ((R / n1 : Nat) : Int) := by simp
            exact ⟨(R : Int) / n1, (R : Int) - (R : Int) / n1 * n1, rfl, rfl, Lib.hid (by rw [e1, e4]; exact g1), Lib.hid (by rw [e1]; exact g3), by omega, by omega, by omega, by omega⟩
          case round =>
            obtain ⟨q, r, rfl, rfl, hq1, hq2, hq3, hq4, hr0, hr⟩ := hrel
            have ST := Lib.hid (fun hc => loop_step d.hY d.h1 hR d.hv0 hq3 hr0 hq1.out hc)
            have BR := Lib.hid (fun hc h3 => loop_break d.hY d.h0 d.h1 hR d.hv0 hq3 hq4 hr0 hq1.out hc h3)
            have EN := Lib.hid (fun h3 => loop_end d.hY d.h1 hq3 hr0 hq1.out hq2.out h3)
            have PR := Lib.hid (fun h => prod_lt hq3 h d.h0)
            generalize hN : (n1 : Int) = N1 at *
            clear hN
            generalize hM : (n0 : Int) = N0 at *
            clear hM
            generalize hV : (v0 : Int) = V1 at *
            clear hV
            by_cases c1 : 4294967296 ≤ q
            · have c1i : decide (4294967296 ≤ q) = true := by simp; exact c1
              obtain ⟨s1, s2, s3⟩ := ST.out (.inl c1)
              have S1 := Lib.hid s1; have S2 := Lib.hid s2
              clear s1 s2
              by_cases c3 : 4294967296 ≤ r + N1
              · have c3i : decide (4294967296 ≤ r + N1) = true := by simp; exact c3
                have F := Lib.hid (BR.out (.inl c1) c3)
                clear BR EN PR ST
                go_wp2
                go_meet
                exact ⟨(q - 1).toNat, by rw [Int.toNat_of_nonneg (by omega)], F, rfl⟩
              · have c3i : decide (4294967296 ≤ r + N1) = false := by simp; omega
                clear BR EN PR ST
                go_wp2
                go_round
                case rel => exact ⟨q - 1, r + N1, rfl, rfl, S1, S2, by omega, by omega, by omega, by omega⟩
                case measure => simp [intOf]; omega
            · have c1i : decide (4294967296 ≤ q) = false := by simp; omega
              obtain ⟨p1, p2⟩ := PR.out c1
              by_cases c2 : 4294967296 * r + V1 < q * N0
              · obtain ⟨s1, s2, s3⟩ := ST.out (.inr c2)
                have S1 := Lib.hid s1; have S2 := Lib.hid s2
                clear s1 s2
                by_cases c3 : 4294967296 ≤ r + N1
                · have c3i : decide (4294967296 ≤ r + N1) = true := by simp; exact c3
                  have F := Lib.hid (BR.out (.inr c2) c3)
                  clear BR EN PR ST
                  go_wp2
                  go_meet
                  exact ⟨(q - 1).toNat, by rw [Int.toNat_of_nonneg (by omega)], F, rfl⟩
                · have c3i : decide (4294967296 ≤ r + N1) = false := by simp; omega
                  clear BR EN PR ST
                  go_wp2
                  go_round
                  case rel => exact ⟨q - 1, r + N1, rfl, rfl, S1, S2, by omega, by omega, by omega, by omega⟩
                  case measure => simp [intOf]; omega
              · have F := Lib.hid (EN.out (by omega))
                clear BR EN PR ST
                go_wp2
                go_meet
                exact ⟨q.toNat, by rw [Int.toNat_of_nonneg (by omega)], F, rfl⟩
        case rest =>
          obtain ⟨q0, rfl, hq0, rfl⟩ := hcut
          have k1 : (q1 : Int) < 4294967296 := by have := half_lt d.hu d.hv1; rw [← hq1.out] at this; omega
          have k0 : (q0 : Int) < 4294967296 := by have := half_lt HR.out d.hv0; rw [← hq0.out] at this; omega
          have E1 := Lib.hid (rest_wrap hq0.out d.leY d.posY)
          have s64 : (s : Int) < 64 := by have := s1'.out; omega
          have FIN := Lib.hid (div_fin d hq1.out hR0.out hq0.out)
          go_wp2_with fail
          go_ret2
          obtain ⟨g1, g2⟩ := FIN.out
          have e1 := E1.out
          exact ⟨ret_two (by rw [g1]; simp) (by rw [e1, g2]; simp), rfl⟩
end Go.Proofs.YtknfhphhcnbndaaGreatDoor.N

namespace Go.Proofs.YtknfhphhcnbndaaGreatDoor.N
open Go.RowKit

/-- A hundred times n by d, rounded up, cut to the greatest int64. -/
def pctZ (n d : Int) : Int :=
  if n < 1 ∨ d < 1 then 0 else if 9223372036854775807 ≤ 100 * n / d then 9223372036854775807 else if 0 < 100 * n % d then 100 * n / d + 1 else 100 * n / d

def pctPost (n d : Int) (w : World) (e : Ending) (w' : World) : Prop := e = .returned (.int .i64 (pctZ n d)) ∧ ∃ k, w' = w.drewN k

set_option maxHeartbeats 400000 in
theorem div_zero (lo y : Int) (w : World) (h1 : 1 ≤ y) (h3 : y ≤ 18446744073709551615) (h0 : 0 ≤ lo) (h4 : lo ≤ 18446744073709551615) :
    Calls Tryz.prog 149 #[.int .u64 0, .int .u64 lo, .int .u64 y] w fun e w' => e = .returned (.tuple #[.int .u64 (lo / y), .int .u64 (lo % y)]) ∧ ∃ k, w' = w.drewN k := by
  have y0 : (y == 0) = false := beq_eq_false_iff_ne.2 (by omega)
  have q1 : lo / y ≤ lo := Int.ediv_le_self _ (by omega)
  have q0 : 0 ≤ lo / y := Int.ediv_nonneg (by omega) (by omega)
  go_enter Tryz.func149, Tryz.ntmps149
  go_wp2
  go_quiet (fail)
  go_wp2
  go_ret2
  exact ⟨rfl, _, rfl⟩

/-- The quotient and the rest by y, for any upper half below y. -/
def divPostZ (hi lo y : Int) (w : World) (e : Ending) (w' : World) : Prop :=
  ∃ q r : Int, Hid (q = (hi * 18446744073709551616 + lo) / y) ∧ Hid (r = (hi * 18446744073709551616 + lo) % y) ∧ 0 ≤ q ∧ 0 ≤ r ∧ e = .returned (.tuple #[.int .u64 q, .int .u64 r]) ∧ ∃ k, w' = w.drewN k

theorem div_all (hi lo y : Int) (w : World) (h0 : 0 ≤ hi) (h1 : hi < y) (h2 : y ≤ 18446744073709551615) (h3 : 0 ≤ lo) (h4 : lo ≤ 18446744073709551615) :
    Calls Tryz.prog 149 #[.int .u64 hi, .int .u64 lo, .int .u64 y] w (divPostZ hi lo y w) := by
  by_cases hz : hi = 0
  · subst hz
    refine (div_zero lo y w (by omega) h2 h3 h4).mono ?_
    rintro e w' ⟨rfl, k, rfl⟩
    refine ⟨lo / y, lo % y, Lib.hid (by simp), Lib.hid (by simp), Int.ediv_nonneg h3 (by omega), Int.emod_nonneg _ (by omega), rfl, k, rfl⟩
  · obtain ⟨a, rfl⟩ := Int.eq_ofNat_of_zero_le h0
    obtain ⟨b, rfl⟩ := Int.eq_ofNat_of_zero_le h3
    obtain ⟨c, rfl⟩ := Int.eq_ofNat_of_zero_le (show 0 ≤ y by omega)
    refine (div_any a b c w (by omega) (by omega) (by omega) (by omega)).mono ?_
    rintro e w' ⟨rfl, rfl⟩
    refine ⟨_, _, Lib.hid ?_, Lib.hid ?_, Int.natCast_nonneg _, Int.natCast_nonneg _, rfl, 0, rfl⟩
    · simp
    · simp

def mulPost (x y : Int) (w : World) (e : Ending) (w' : World) : Prop :=
  ∃ h l : Int, Hid (h * 18446744073709551616 + l = x * y) ∧ 0 ≤ h ∧ h ≤ 18446744073709551615 ∧ 0 ≤ l ∧ l ≤ 18446744073709551615 ∧ e = .returned (.tuple #[.int .u64 h, .int .u64 l]) ∧ w = w'

theorem mul_all (x y : Int) (w : World) (h0 : 0 ≤ x) (h1 : x ≤ 18446744073709551615) (h2 : 0 ≤ y) (h3 : y ≤ 18446744073709551615) :
    Calls Tryz.prog 148 #[.int .u64 x, .int .u64 y] w (mulPost x y w) := by
  obtain ⟨a, rfl⟩ := Int.eq_ofNat_of_zero_le h0
  obtain ⟨b, rfl⟩ := Int.eq_ofNat_of_zero_le h2
  refine (Tryz.bits_Mul64 a b (by omega) (by omega) w).mono ?_
  rintro e w' ⟨rfl, rfl⟩
  have hm : a * b ≤ 18446744073709551615 * 18446744073709551615 := Nat.mul_le_mul (by omega) (by omega)
  refine ⟨_, _, Lib.hid ?_, Int.natCast_nonneg _, ?_, Int.natCast_nonneg _, ?_, rfl, rfl⟩
  · have e : ((a * b : Nat) : Int) = (a : Int) * (b : Int) := Int.natCast_mul _ _
    rw [← e]; generalize a * b = c at *; omega
  · generalize a * b = c at *; omega
  · generalize a * b = c at *; omega

set_option maxHeartbeats 1000000 in
theorem percent_any (n d : Int) (w : World) (h1 : -9223372036854775808 ≤ n) (h2 : n ≤ 9223372036854775807) (h3 : -9223372036854775808 ≤ d) (h4 : d ≤ 9223372036854775807) :
    Calls Tryz.prog 92 #[.int .i64 n, .int .i64 d] w (pctPost n d w) := by
  by_cases hn : n < 1
  · go_enter Tryz.func92, Tryz.ntmps92
    go_wp2
    go_ret
    exact ⟨ret_int (by rw [pctZ, if_pos (.inl hn)]), 0, rfl⟩
  · by_cases hd : d < 1
    · go_enter Tryz.func92, Tryz.ntmps92
      go_wp2
      go_ret
      exact ⟨ret_int (by rw [pctZ, if_pos (.inr hd)]), 0, rfl⟩
    · go_enter Tryz.func92, Tryz.ntmps92
      go_wp2_with fail
      refine (mul_all _ _ _ (by omega) (by omega) (by omega) (by omega)).mono ?_
      rintro e w' ⟨h, l, hm, k1, k2, k3, k4, rfl, rfl⟩
      by_cases c1 : d ≤ h
      · go_wp2_with fail
        go_ret
        refine ⟨ret_int ?_, 0, rfl⟩
        have := hm.out
        have g : 9223372036854775807 ≤ 100 * n / d := Int.le_ediv_of_mul_le (by omega) (by omega)
        rw [pctZ, if_neg (by omega), if_pos g]
      · go_wp2_with fail
        refine (div_all _ _ _ _ (by omega) (by omega) (by omega) (by omega) (by omega)).mono ?_
        rintro e w' ⟨q, r, hq, hr, q0, r0, rfl, k, rfl⟩
        have hq' := Lib.hid (show q = 100 * n / d by rw [hq.out, hm.out, Int.mul_comm])
        have hr' := Lib.hid (show r = 100 * n % d by rw [hr.out, hm.out, Int.mul_comm])
        clear hq hr hm
        by_cases c2 : 9223372036854775807 ≤ q
        · go_wp2_with fail
          go_ret
          exact ⟨ret_int (by rw [pctZ, if_neg (by omega), if_pos (by rw [← hq'.out]; exact c2)]), _, rfl⟩
        · by_cases c3 : 0 < r
          · go_wp2_with fail
            go_ret
            exact ⟨ret_int (by rw [pctZ, if_neg (by omega), ← hq'.out, ← hr'.out, if_neg (by omega), if_pos c3]), _, rfl⟩
          · go_wp2_with fail
            go_ret
            exact ⟨ret_int (by rw [pctZ, if_neg (by omega), ← hq'.out, ← hr'.out, if_neg (by omega), if_neg (by omega)]), _, rfl⟩

theorem step_no {a n d : Int} (hd : 1 ≤ d) (h : a % d + n % d < d) : (a + n) / d = a / d + n / d ∧ (a + n) % d = a % d + n % d := by
  have e1 := Int.emod_add_mul_ediv a d
  have e2 := Int.emod_add_mul_ediv n d
  have m1 := Int.emod_nonneg a (show d ≠ 0 by omega)
  have m2 := Int.emod_nonneg n (show d ≠ 0 by omega)
  refine (Int.ediv_emod_unique (show 0 < d by omega)).2 ⟨?_, by omega, by omega⟩
  rw [Int.mul_add]; omega

theorem step_yes {a n d : Int} (hd : 1 ≤ d) (h : d ≤ a % d + n % d) : (a + n) / d = a / d + n / d + 1 ∧ (a + n) % d = a % d + n % d - d := by
  have e1 := Int.emod_add_mul_ediv a d
  have e2 := Int.emod_add_mul_ediv n d
  have m1 := Int.emod_lt_of_pos a (show 0 < d by omega)
  have m2 := Int.emod_lt_of_pos n (show 0 < d by omega)
  refine (Int.ediv_emod_unique (show 0 < d by omega)).2 ⟨?_, by omega, by omega⟩
  rw [Int.mul_add, Int.mul_add]; omega

theorem early {n d k : Int} (hn : 1 ≤ n) (hd : 1 ≤ d) (hk : k ≤ 100) (h : 9223372036854775807 < k * n / d) : 9223372036854775807 = pctZ n d := by
  have : k * n ≤ 100 * n := Int.mul_le_mul_of_nonneg_right hk (by omega)
  have := Int.ediv_le_ediv (show 0 < d by omega) this
  rw [pctZ, if_neg (by omega), if_pos (by omega)]

theorem pct_last {n d q r x : Int} (hn : 1 ≤ n) (hd : 1 ≤ d) (a1 : q ≤ 9223372036854775807) (hq : q = 100 * n / d) (hr : r = 100 * n % d) (hx : (0 < r ∧ x = q + 1) ∨ (r ≤ 0 ∧ x = q)) : min x 9223372036854775807 = pctZ n d := by
  rw [pctZ, if_neg (by omega), ← hq, ← hr]
  rcases hx with ⟨h, rfl⟩ | ⟨h, rfl⟩
  · by_cases c : 9223372036854775807 ≤ q
    · rw [if_pos c]; omega
    · rw [if_neg c, if_pos h]; omega
  · by_cases c : 9223372036854775807 ≤ x
    · rw [if_pos c]; omega
    · rw [if_neg c, if_neg (by omega)]; omega

set_option maxHeartbeats 1000000 in
theorem refPercent_any (n d : Int) (w : World) (h1 : -9223372036854775808 ≤ n) (h2 : n ≤ 9223372036854775807) (h3 : -9223372036854775808 ≤ d) (h4 : d ≤ 9223372036854775807) :
    Calls Tryz.prog 47 #[.int .i64 n, .int .i64 d] w (pctPost n d w) := by
  by_cases hn : n < 1
  · go_enter Tryz.func47, Tryz.ntmps47
    go_wp2
    go_ret
    exact ⟨ret_int (by rw [pctZ, if_pos (.inl hn)]), 0, rfl⟩
  · by_cases hd : d < 1
    · go_enter Tryz.func47, Tryz.ntmps47
      go_wp2
      go_ret
      exact ⟨ret_int (by rw [pctZ, if_pos (.inr hd)]), 0, rfl⟩
    · have t1 : decide (n < 1) = false := by simp; omega
      have t2 : decide (d < 1) = false := by simp; omega
      go_enter Tryz.func47, Tryz.ntmps47
      go_wp2
      have q1 : n / d ≤ n := Int.ediv_le_self _ (by omega)
      have q0 : 0 ≤ n / d := Int.ediv_nonneg (by omega) (by omega)
      have r0 : 0 ≤ n % d := Int.emod_nonneg _ (by omega)
      have r1 : n % d < d := Int.emod_lt_of_pos _ (by omega)
      go_loop [5, 6, 8] (fun a b i => ∃ k q r : Int, i = .int .i64 k ∧ a = .int .u64 q ∧ b = .int .u64 r ∧ 0 ≤ k ∧ k ≤ 100 ∧ 0 ≤ q ∧ q ≤ 9223372036854775807 ∧ 0 ≤ r ∧ r < d ∧ Hid (q = k * n / d) ∧ Hid (r = k * n % d)) (fun _ _ i => (100 - intOf i).toNat)
      case atStart => exact ⟨0, 0, 0, rfl, rfl, rfl, by omega, by omega, by omega, by omega, by omega, by omega, Lib.hid (by simp), Lib.hid (by simp)⟩
      case round =>
        obtain ⟨k, q, r, rfl, rfl, rfl, k0, k1, a0, a1, b0, b1, hq, hr⟩ := hrel
        by_cases c0 : k < 100
        · have kn1 : (k + 1) * n = k * n + n := by rw [Int.add_mul, Int.one_mul]
          by_cases c1 : d ≤ r + n % d
          · have S := Lib.hid (step_yes (a := k * n) (n := n) (d := d) (by omega) (by rw [← hr.out]; exact c1))
            rw [← kn1, ← hq.out, ← hr.out] at S
            clear kn1
            by_cases c2 : 9223372036854775807 < q + n / d + 1
            · have F := Lib.hid (early (k := k + 1) (n := n) (d := d) (by omega) (by omega) (by omega) (by rw [S.out.1]; exact c2))
              go_wp2
              go_ret
              exact ⟨ret_int F.out, 0, rfl⟩
            · go_wp2
              go_round
              case rel => exact ⟨k + 1, q + n / d + 1, r + n % d - d, rfl, rfl, rfl, by omega, by omega, by omega, by omega, by omega, by omega, Lib.hid S.out.1.symm, Lib.hid S.out.2.symm⟩
              case measure => simp [intOf]; omega
          · have S := Lib.hid (step_no (a := k * n) (n := n) (d := d) (by omega) (by rw [← hr.out]; omega))
            rw [← kn1, ← hq.out, ← hr.out] at S
            clear kn1
            by_cases c2 : 9223372036854775807 < q + n / d
            · have F := Lib.hid (early (k := k + 1) (n := n) (d := d) (by omega) (by omega) (by omega) (by rw [S.out.1]; exact c2))
              go_wp2
              go_ret
              exact ⟨ret_int F.out, 0, rfl⟩
            · go_wp2
              go_round
              case rel => exact ⟨k + 1, q + n / d, r + n % d, rfl, rfl, rfl, by omega, by omega, by omega, by omega, by omega, by omega, Lib.hid S.out.1.symm, Lib.hid S.out.2.symm⟩
              case measure => simp [intOf]; omega
        · obtain rfl : k = 100 := by omega
          by_cases c1 : 0 < r
          · go_wp2
            go_ret
            refine ⟨ret_int ?_, 0, rfl⟩
            exact pct_last (by omega) (by omega) a1 hq.out hr.out (.inl ⟨c1, rfl⟩)
          · go_wp2
            go_ret
            refine ⟨ret_int ?_, 0, rfl⟩
            exact pct_last (by omega) (by omega) a1 hq.out hr.out (.inr ⟨by omega, rfl⟩)
end Go.Proofs.YtknfhphhcnbndaaGreatDoor.N
