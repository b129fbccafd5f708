/-
  Whole numbers of small size as float64s: how two stand to each other, and that an int made a float and back is what it was. Conditions: they are below 2^53 in size. Of no program.
-/
import Derived.Test.YtemnbleacjpfcaaDoorFloat
namespace Go.Proofs.YtemnbleacjpfcaaDoor.N
open Ieee

theorem compare_mul (a b p : Int) (hp : 0 < p) : compare (a * p) (b * p) = compare a b := by
  rcases Int.lt_trichotomy a b with h | h | h
  · have h2 : a * p < b * p := Int.mul_lt_mul_of_pos_right h hp
    rw [show compare a b = .lt from Int.compare_eq_lt.2 h, Int.compare_eq_lt.2 h2]
  · rw [h]
    rw [show compare b b = .eq from Int.compare_eq_eq.2 rfl, Int.compare_eq_eq.2 rfl]
  · have h2 : b * p < a * p := Int.mul_lt_mul_of_pos_right h hp
    rw [show compare a b = .gt from Int.compare_eq_gt.2 h, Int.compare_eq_gt.2 h2]
theorem whole_order {x y : Datum} {a b : Int} (hx : IsWhole x a) (hy : IsWhole y b) : x.order y = some (compare a b) := by
  obtain ⟨s, m, i, rfl, ha⟩ := hx
  obtain ⟨t, n, j, rfl, hb⟩ := hy
  have hbase : min (-(i : Int)) (-(j : Int)) = -((max i j : Nat) : Int) := by omega
  have e1 := signed_val s m i (max i j) (by omega)
  have e2 := signed_val t n j (max i j) (by omega)
  rw [← ha] at e1
  rw [← hb] at e2
  have p0 : 0 < (2 : Int) ^ max i j := Int.pow_pos (by decide)
  show some (compare (signed s (m * 2 ^ i) (-(i : Int) - min (-(i : Int)) (-(j : Int))).toNat) (signed t (n * 2 ^ j) (-(j : Int) - min (-(i : Int)) (-(j : Int))).toNat)) = _
  rw [hbase, e1, e2, compare_mul _ _ _ p0]
theorem float_order (a b : Int) (ha : a.natAbs < 2 ^ 53) (hb : b.natAbs < 2 ^ 53) : FloatKind.f64.format.order (floatOfInt .f64 a) (floatOfInt .f64 b) = some (compare a b) :=
  whole_order (whole_ofInt a ha) (whole_ofInt b hb)
theorem float_eq (a b : Int) (ha : a.natAbs < 2 ^ 53) (hb : b.natAbs < 2 ^ 53) : (FloatKind.f64.format.order (floatOfInt .f64 a) (floatOfInt .f64 b) == some .eq) = decide (a = b) := by
  rw [float_order a b ha hb]
  rcases Int.lt_trichotomy a b with h | h | h
  · rw [show compare a b = .lt from Int.compare_eq_lt.2 h, decide_eq_false (by omega)]; rfl
  · rw [show compare a b = .eq from Int.compare_eq_eq.2 h, decide_eq_true h]; rfl
  · rw [show compare a b = .gt from Int.compare_eq_gt.2 h, decide_eq_false (by omega)]; rfl
theorem float_gt (a b : Int) (ha : a.natAbs < 2 ^ 53) (hb : b.natAbs < 2 ^ 53) : (FloatKind.f64.format.order (floatOfInt .f64 a) (floatOfInt .f64 b) == some .gt) = decide (b < a) := by
  rw [float_order a b ha hb]
  rcases Int.lt_trichotomy a b with h | h | h
  · rw [show compare a b = .lt from Int.compare_eq_lt.2 h, decide_eq_false (by omega)]; rfl
  · rw [show compare a b = .eq from Int.compare_eq_eq.2 h, decide_eq_false (by omega)]; rfl
  · rw [show compare a b = .gt from Int.compare_eq_gt.2 h, decide_eq_true h]; rfl
theorem float_back (a : Int) (ha : a.natAbs < 2 ^ 53) : floatToIntVal .f64 (floatOfInt .f64 a) .i64 = some a := by
  have := whole_toInt (whole_ofInt a ha)
  unfold floatToIntVal
  rw [this]
  simp only
  rw [if_pos]
  simp [IntKind.min, IntKind.max, IntKind.bits, IntKind.signed]
  omega
theorem float_one : floatOfInt .f64 1 = 4607182418800017408 := by decide +kernel
theorem float_two : floatOfInt .f64 2 = 4611686018427387904 := by decide +kernel
theorem float_zero : floatOfInt .f64 0 = 0 := by decide +kernel
end Go.Proofs.YtemnbleacjpfcaaDoor.N
