/-
  Whole numbers of small size as float64s: the difference of two, made an int again, is the difference of the numbers. Conditions: both are below 2^52 in size. Of no program.
-/
import Derived.Laws.FloatArith
namespace Go.Proofs.YtigkdehaepenhaaDoor.N
open Ieee

theorem log2_of {n k : Nat} (h1 : 2 ^ k ≤ n) (h2 : n < 2 ^ (k + 1)) : n.log2 = k :=
  (Nat.log2_eq_iff (by have := Nat.two_pow_pos k; omega)).2 ⟨h1, h2⟩

theorem log2_mul (n i : Nat) (h : 1 ≤ n) : (n * 2 ^ i).log2 = n.log2 + i := by
  refine log2_of ?_ ?_
  · rw [Nat.pow_add]; exact Nat.mul_le_mul_right _ (Nat.log2_self_le (by omega))
  · rw [show n.log2 + i + 1 = n.log2 + 1 + i by omega, Nat.pow_add]; exact Nat.mul_lt_mul_of_pos_right Nat.lt_log2_self (Nat.two_pow_pos i)

theorem cut_exact (way : Toward) (neg : Bool) (n drop : Nat) (h : n % 2 ^ drop = 0) : way.cut neg n drop = n / 2 ^ drop := by
  have hg : n % 2 ^ min drop (n.log2 + 2) = 0 :=
    Nat.mod_eq_zero_of_dvd (Nat.dvd_trans (Nat.pow_dvd_pow 2 (Nat.min_le_left _ _)) (Nat.dvd_of_mod_eq_zero h))
  have hp := Nat.two_pow_pos (min drop (n.log2 + 2))
  have hl : n / 2 ^ min drop (n.log2 + 2) = n / 2 ^ drop := by
    by_cases hd : drop ≤ n.log2 + 2
    · rw [Nat.min_eq_left hd]
    · have : n < 2 ^ drop := Nat.lt_of_lt_of_le Nat.lt_log2_self (Nat.pow_le_pow_right (by decide) (by omega))
      rw [Nat.mod_eq_of_lt this] at h
      subst h; simp
  unfold Toward.cut
  simp only [Nat.shiftLeft_eq, Nat.one_mul, hg, hl]
  cases way <;> simp <;> omega

theorem read_word (s : Bool) (K e : Nat) (h1 : 2 ^ 52 ≤ K) (h2 : K < 2 ^ 53) (he : e < 2045) :
    double.read (double.word s (min (e * double.binade + K) double.infRung)) = .number s K (double.leastPlace + e) := by
  have hb : double.binade = 4503599627370496 := by rfl
  have hi : double.infRung = 9218868437227405312 := by rfl
  have hs : double.signWeight = 9223372036854775808 := by rfl
  have hm : min (e * double.binade + K) double.infRung = e * 4503599627370496 + K := by rw [hb, hi]; omega
  rw [hm]
  unfold Format.read Format.word
  rw [hb, hi, hs]
  have k1 : 4503599627370496 ≤ K := h1
  have k2 : K < 9007199254740992 := h2
  have e1 : (if s = true then 9223372036854775808 + (e * 4503599627370496 + K) else e * 4503599627370496 + K) % 9223372036854775808 = e * 4503599627370496 + K := by split <;> omega
  have e2 : ((if s = true then 9223372036854775808 + (e * 4503599627370496 + K) else e * 4503599627370496 + K) / 9223372036854775808 % 2 == 1) = s := by
    cases s
    · simp; omega
    · simp; omega
  simp only [e1, e2]
  rw [if_neg (by omega), if_pos (by omega)]
  congr 1
  · omega
  · congr 1
    have : (e * 4503599627370496 + K) / 4503599627370496 - 1 = e := by omega
    rw [this]

/-- What a whole number below 2^53 is written and read as. -/
theorem read_nearest (s : Bool) (n i : Nat) (h1 : 1 ≤ n) (h2 : n < 2 ^ 53) :
    double.read (double.nearest s (n * 2 ^ i) (-(i : Int))) = .number s (n * 2 ^ (52 - n.log2)) (-((52 - n.log2 : Nat) : Int)) := by
  have hl : n.log2 ≤ 52 := by
    have : n.log2 < 53 := (Nat.log2_lt (by omega)).2 h2
    omega
  have hp : double.leastPlace = -1074 := by rfl
  have hf : double.fractionBits = 52 := by rfl
  have hpos := Nat.two_pow_pos i
  have hne : n * 2 ^ i ≠ 0 := Nat.mul_ne_zero (by omega) (by omega)
  unfold Format.nearest
  rw [if_neg hne]
  simp only [log2_mul n i h1, hp, hf]
  have el : max (-(i : Int) + ((n.log2 + i : Nat) : Int) - ((52 : Nat) : Int)) (-1074) = -((52 - n.log2 : Nat) : Int) := by omega
  rw [el]
  have K : Toward.even.cut s ((n * 2 ^ i) <<< (-(i : Int) - -((52 - n.log2 : Nat) : Int)).toNat) (-((52 - n.log2 : Nat) : Int) - -(i : Int)).toNat = n * 2 ^ (52 - n.log2) := by
    generalize 52 - n.log2 = j
    rcases Nat.le_total i j with hij | hij
    · rw [show (-(i : Int) - -(j : Int)).toNat = j - i by omega, show (-(j : Int) - -(i : Int)).toNat = 0 by omega, cut_exact _ _ _ _ (by simp [Nat.mod_one])]
      rw [Nat.shiftLeft_eq, Nat.mul_assoc, ← Nat.pow_add, show i + (j - i) = j by omega]; simp
    · rw [show (-(i : Int) - -(j : Int)).toNat = 0 by omega, show (-(j : Int) - -(i : Int)).toNat = i - j by omega, Nat.shiftLeft_zero]
      have e : n * 2 ^ i = n * 2 ^ j * 2 ^ (i - j) := by rw [Nat.mul_assoc, ← Nat.pow_add, show j + (i - j) = i by omega]
      rw [e, cut_exact _ _ _ _ (Nat.mul_mod_left _ _), Nat.mul_div_cancel _ (Nat.two_pow_pos _)]
  rw [K]
  have a1 : 2 ^ 52 ≤ n * 2 ^ (52 - n.log2) := by
    have := Nat.mul_le_mul_right (2 ^ (52 - n.log2)) (Nat.log2_self_le (show n ≠ 0 by omega))
    rwa [← Nat.pow_add, show n.log2 + (52 - n.log2) = 52 by omega] at this
  have a2 : n * 2 ^ (52 - n.log2) < 2 ^ 53 := by
    have := Nat.mul_lt_mul_of_pos_right (Nat.lt_log2_self (n := n)) (Nat.two_pow_pos (52 - n.log2))
    rwa [← Nat.pow_add, show n.log2 + 1 + (52 - n.log2) = 53 by omega] at this
  generalize hj : 52 - n.log2 = j at *
  rw [show (-(j : Int) - (-1074 : Int)).toNat = 1074 - j by omega, read_word s _ _ a1 a2 (by omega), hp]
  congr 1
  omega

/-- A datum that is a whole number. -/
def IsWhole (d : Datum) (z : Int) : Prop := ∃ (s : Bool) (m i : Nat), d = .number s (m * 2 ^ i) (-(i : Int)) ∧ z = (if s then -(m : Int) else m)

theorem whole_read (s : Bool) (n i : Nat) (h2 : n < 2 ^ 53) : IsWhole (double.read (double.nearest s (n * 2 ^ i) (-(i : Int)))) (if s then -(n : Int) else n) := by
  by_cases h : n = 0
  · subst h
    refine ⟨s, 0, 1074, ?_, by simp⟩
    simp only [Nat.zero_mul]
    unfold Format.nearest
    rw [if_pos rfl]
    cases s <;> rfl
  · exact ⟨s, n, 52 - n.log2, read_nearest s n i (by omega) h2, rfl⟩

theorem whole_ofInt (z : Int) (h : z.natAbs < 2 ^ 53) : IsWhole (FloatKind.f64.decode (floatOfInt .f64 z)) z := by
  have := whole_read (decide (z < 0)) z.natAbs 0 h
  simp only [Nat.pow_zero, Nat.mul_one] at this
  have e : (if decide (z < 0) = true then -(z.natAbs : Int) else z.natAbs) = z := by
    by_cases hz : z < 0 <;> simp [hz] <;> omega
  rw [e] at this
  exact this

theorem signed_val (s : Bool) (m i k : Nat) (h : i ≤ k) : signed s (m * 2 ^ i) (-(i : Int) - -(k : Int)).toNat = (if s then -(m : Int) else m) * 2 ^ k := by
  rw [show (-(i : Int) - -(k : Int)).toNat = k - i by omega]
  unfold signed
  have e : ((m * 2 ^ i) <<< (k - i) : Nat) = m * 2 ^ k := by rw [Nat.shiftLeft_eq, Nat.mul_assoc, ← Nat.pow_add, show i + (k - i) = k by omega]
  rw [e]
  cases s <;> simp [Int.neg_mul]

theorem whole_sub {x y : Datum} {a b : Int} (hx : IsWhole x a) (hy : IsWhole y b) : ∃ d, x.sum y.opposite = some d ∧ ∃ (s : Bool) (m i : Nat), d = .number s (m * 2 ^ i) (-(i : Int)) ∧ a - b = (if s then -(m : Int) else m) ∧ m = (a - b).natAbs := by
  obtain ⟨s, m, i, rfl, ha⟩ := hx
  obtain ⟨t, n, j, rfl, hb⟩ := hy
  have hbase : min (-(i : Int)) (-(j : Int)) = -((max i j : Nat) : Int) := by omega
  have e1 := signed_val s m i (max i j) (by omega)
  have e2 := signed_val (!t) n j (max i j) (by omega)
  rw [← ha] at e1
  have e3 : (if (!t) = true then -(n : Int) else n) = -b := by rw [hb]; cases t <;> simp
  rw [e3] at e2
  have p0 : 0 < (2 : Int) ^ max i j := Int.pow_pos (by decide)
  have tot : a * 2 ^ max i j + -b * 2 ^ max i j = (a - b) * 2 ^ max i j := by rw [← Int.add_mul, Int.sub_eq_add_neg]
  have hz : ((a - b) * 2 ^ max i j = 0) ↔ a - b = 0 := by
    constructor
    · intro h
      rcases Int.mul_eq_zero.1 h with h | h
      · exact h
      · omega
    · intro h; rw [h, Int.zero_mul]
  have hn : ((a - b) * 2 ^ max i j < 0) ↔ a - b < 0 := by
    constructor
    · intro h
      rcases Int.lt_or_le (a - b) 0 with k | k
      · exact k
      · have := Int.mul_nonneg k (Int.le_of_lt p0); omega
    · intro h; exact Int.mul_neg_of_neg_of_pos h p0
  refine ⟨_, rfl, (if (a - b) * 2 ^ max i j = 0 then s && !t else decide ((a - b) * 2 ^ max i j < 0)), (a - b).natAbs, max i j, ?_, ?_, rfl⟩
  · simp only [hbase, e1, e2, tot]
    congr 1
    rw [Int.natAbs_mul, Int.natAbs_pow]; rfl
  · by_cases h0 : a - b = 0
    · rw [h0]; simp
    · rw [if_neg (fun h => h0 (hz.1 h))]
      by_cases h1 : a - b < 0
      · simp only [decide_eq_true (hn.2 h1)]; simp; omega
      · simp only [decide_eq_false (fun h => h1 (hn.1 h))]; simp; omega

theorem whole_toInt {d : Datum} {z : Int} (h : IsWhole d z) : d.toInt .zero = some z := by
  obtain ⟨s, m, i, rfl, hz⟩ := h
  show some (signed s (Toward.zero.cut s ((m * 2 ^ i) <<< (-(i : Int)).toNat) (- -(i : Int)).toNat) 0) = some z
  rw [show (-(i : Int)).toNat = 0 by omega, show (- -(i : Int)).toNat = i by omega, Nat.shiftLeft_zero, cut_exact _ _ _ _ (Nat.mul_mod_left _ _), Nat.mul_div_cancel _ (Nat.two_pow_pos _)]
  simp only [signed, Nat.shiftLeft_zero, hz]

/-- The difference of two whole numbers as float64s, made an int. -/
theorem float_diff (a b : Int) (ha0 : 0 ≤ a) (ha : a ≤ 10000) (hb0 : 0 ≤ b) (hb : b ≤ 10000) : ∃ r, floatBits .sub .f64 (floatOfInt .f64 a) (floatOfInt .f64 b) = some r ∧ floatToIntVal .f64 r .i64 = some (a - b) := by
  obtain ⟨d, hd, s, m, i, rfl, hs, hm⟩ := whole_sub (whole_ofInt a (by omega)) (whole_ofInt b (by omega))
  refine ⟨double.nearest s (m * 2 ^ i) (-(i : Int)), ?_, ?_⟩
  · show ((double.read _).sum (double.read _).opposite).map double.write = _
    have : ((double.read (floatOfInt .f64 a)).sum (double.read (floatOfInt .f64 b)).opposite) = some (.number s (m * 2 ^ i) (-(i : Int))) := hd
    rw [this]; rfl
  · have w := whole_read s m i (by omega)
    rw [← hs] at w
    unfold floatToIntVal
    have := whole_toInt w
    rw [show FloatKind.f64.decode (double.nearest s (m * 2 ^ i) (-(i : Int))) = double.read (double.nearest s (m * 2 ^ i) (-(i : Int))) from rfl, this]
    simp only
    rw [if_pos]
    simp [IntKind.min, IntKind.max, IntKind.bits, IntKind.signed]
    omega
end Go.Proofs.YtigkdehaepenhaaDoor.N
