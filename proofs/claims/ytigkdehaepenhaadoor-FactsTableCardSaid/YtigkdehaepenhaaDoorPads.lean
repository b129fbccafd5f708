/-
  What padding returns: the text with as many blanks behind it as its told width lacks; and the reference's blanks. Conditions: the widths are ints, the text has at most 100 bytes.
-/
import Derived.Test.YtigkdehaepenhaaDoorShelf
import Derived.Test.YtigkdehaepenhaaDoorCeil
import Derived.Test.YtigkdehaepenhaaDoorFloat
namespace Go.Proofs.YtigkdehaepenhaaDoor.N
open Go.RowKit

/-- A width, cut to 0 .. 10000. -/
def clampZ (z : Int) : Int := min (max z 0) 10000
theorem clamp_bd (z : Int) : 0 ≤ clampZ z ∧ clampZ z ≤ 10000 := by unfold clampZ; omega

/-- How many blanks are lacking. -/
def lackN (width wanted : Int) : Nat := (clampZ wanted - clampZ width).toNat
theorem lack_le (a b : Int) : lackN a b ≤ 10000 := by have := clamp_bd a; have := clamp_bd b; unfold lackN; omega

def blankS (n : Nat) : ByteArray := ⟨(List.replicate n (32 : UInt8)).toArray⟩
theorem blankS_size (n : Nat) : (blankS n).size = n := by show (List.replicate n (32 : UInt8)).toArray.size = n; simp
theorem blankS_succ (n : Nat) : blankS n ++ ⟨#[32]⟩ = blankS (n + 1) := by
  unfold blankS
  rw [show (⟨#[32]⟩ : ByteArray) = ⟨([32] : List UInt8).toArray⟩ from rfl, ByteArray.mk_append_mk, ← List.replicate_succ']
theorem repeat_blank : ∀ n : Nat, Lib.repeatL [32] n = List.replicate n 32
  | 0 => rfl
  | n + 1 => by rw [Lib.repeatL, repeat_blank n]; rfl

theorem bounded_any (z : Int) (w : World) :
    Calls Tryd.prog 43 #[.int .i64 z] w fun e w' => e = .returned (.float .f64 (floatOfInt .f64 (clampZ z))) ∧ w = w' := by
  go_enter Tryd.func43, Tryd.ntmps43
  go_wp2
  go_ret
  exact ⟨rfl, rfl⟩

theorem place_any (a b : Int) (w : World) :
    Calls Tryd.prog 32 #[.int .i64 a, .int .i64 b] w fun e w' => e = .returned (.complex .f64 (floatOfInt .f64 (clampZ a)) (floatOfInt .f64 (clampZ b))) ∧ w = w' := by
  go_enter Tryd.func32, Tryd.ntmps32
  go_wp2_with fail
  refine (bounded_any a _).mono ?_
  rintro e w' ⟨rfl, rfl⟩
  go_wp2_with fail
  refine (bounded_any b _).mono ?_
  rintro e w' ⟨rfl, rfl⟩
  go_wp2_with fail
  go_ret
  exact ⟨rfl, rfl⟩

theorem blanks_any (a b : Int) (w : World) (h1 : 0 ≤ a) (h2 : a ≤ 10000) (h3 : 0 ≤ b) (h4 : b ≤ 10000) :
    Calls Tryd.prog 31 #[.complex .f64 (floatOfInt .f64 a) (floatOfInt .f64 b)] w fun e w' => e = .returned (.string (blankS (b - a).toNat)) ∧ Below w.heap.size w w' := by
  obtain ⟨r, e1, e2⟩ := float_diff b a h3 h4 h1 h2
  have hsub := run_float_arith (P := Tryd.prog) w .sub 86 .f64 _ _ r e1
  have hcon := run_convert_float_int (P := Tryd.prog) w 86 3 .f64 .i64 r (b - a) (by rw [Tryd.underlying86]; rfl) Tryd.underlying3 e2
  clear e1 e2
  generalize floatOfInt .f64 a = x at *
  generalize floatOfInt .f64 b = y at *
  go_enter Tryd.func31, Tryd.ntmps31
  go_wp2_with fail
  have hc : max (b - a) 0 = (((b - a).toNat : Nat) : Int) := by omega
  rw [hc]
  refine (Tryd.strings_Repeat ⟨#[32]⟩ (b - a).toNat w (by omega) (by show 1 * _ ≤ _; omega)).mono ?_
  rintro e w' ⟨rfl, hb⟩
  have HB := Lib.hid hb
  clear hb hsub hcon hc
  rw [show (⟨#[32]⟩ : ByteArray).data.toList = [32] from rfl, repeat_blank]
  go_wp2_with fail
  go_ret
  exact ⟨rfl, HB.out⟩

theorem ret_str {a b : ByteArray} (h : a = b) : Ending.returned (.string a) = .returned (.string b) := by rw [h]

theorem add_blank (P : Program) (t : ByteArray) (a b : Int) (ht : t.size ≤ 100) : ∃ B : ByteArray, B = blankS (lackN a b) ∧ B.size ≤ 10000 ∧ (∀ w : World, (Op.stringOp .add t B).run P w = .ok (.string (t ++ B)) w) ∧ (∀ w : World, (Op.stringOp .add B t).run P w = .ok (.string (B ++ t)) w) := by
  have hl := lack_le a b
  have hz := blankS_size (lackN a b)
  exact ⟨_, rfl, by omega, fun w => run_string_add_sum w _ _ (by omega), fun w => run_string_add_sum w _ _ (by omega)⟩

theorem left_any (t : ByteArray) (a b : Int) (w : World) (ht : t.size ≤ 100) :
    Calls Tryd.prog 21 #[.string t, .int .i64 a, .int .i64 b] w fun e w' => e = .returned (.string (t ++ blankS (lackN a b))) ∧ Below w.heap.size w w' := by
  have ca := clamp_bd a; have cb := clamp_bd b
  obtain ⟨B, hB, _, hadd, _⟩ := add_blank Tryd.prog t a b ht
  have HA := Lib.hid hadd
  have EB := Lib.hid hB
  clear hadd hB
  go_enter Tryd.func21, Tryd.ntmps21
  go_wp2_with fail
  refine (place_any a b _).mono ?_
  rintro e w' ⟨rfl, rfl⟩
  go_wp2_with fail
  refine (blanks_any _ _ _ ca.1 ca.2 cb.1 cb.2).mono ?_
  rintro e w' ⟨rfl, hb⟩
  have HB := Lib.hid hb
  clear hb
  have hadd := HA.out w'
  rw [show blankS (clampZ b - clampZ a).toNat = B from EB.out.symm]
  go_wp2_with fail
  go_ret
  exact ⟨ret_str (by rw [EB.out]), HB.out⟩

theorem refBlanks_any (n : Nat) (w : World) (hn : n ≤ 10000) :
    Calls Tryd.prog 14 #[.int .i64 n] w fun e w' => e = .returned (.string (blankS n)) ∧ w = w' := by
  go_enter Tryd.func14, Tryd.ntmps14
  go_wp2
  go_loop [3, 4] (fun r i => ∃ k : Nat, k ≤ n ∧ i = .int .i64 k ∧ r = .string (blankS k)) (fun _ i => n - (intOf i).toNat)
  case atStart => exact ⟨0, Nat.zero_le _, rfl, rfl⟩
  case round =>
    obtain ⟨k, hk, rfl, rfl⟩ := hrel
    by_cases hlt : k < n
    · have hadd := run_string_add_sum (P := Tryd.prog) w (blankS k) ⟨#[32]⟩ (by rw [blankS_size]; show k + 1 ≤ _; omega)
      rw [blankS_succ] at hadd
      generalize blankS k = B at *
      generalize hC : blankS (k + 1) = C at *
      have HC := Lib.hid hC
      clear hC
      go_wp2
      go_round
      case rel => exact ⟨k + 1, by omega, by go_num, by rw [HC.out]⟩
      case measure => simp [intOf]; omega
    · obtain rfl : k = n := by omega
      go_wp2
      go_ret
      exact ⟨rfl, rfl⟩
end Go.Proofs.YtigkdehaepenhaaDoor.N
