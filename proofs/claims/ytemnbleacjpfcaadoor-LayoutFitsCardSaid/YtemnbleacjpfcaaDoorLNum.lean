/-
  What the program's small functions on numbers of columns return. Conditions: the numbers are small.
-/
import Derived.Test.YtemnbleacjpfcaaDoorLPlaceM
import Derived.Test.YtemnbleacjpfcaaDoorCeil
import Derived.Test.YtemnbleacjpfcaaDoorFloatO
import Derived.Test.YtemnbleacjpfcaaDoorBase
set_option linter.unusedVariables false
namespace Go.Proofs.YtemnbleacjpfcaaDoor.L
open Go.Proofs.YtemnbleacjpfcaaDoor.N hiding ret_int
open Go.Proofs.YtemnbleacjpfcaaDoor.B
open Go.RowKit

abbrev flI (z : Int) : Nat := floatOfInt .f64 z
/-- So many columns and rows, as the program has it. -/
abbrev sizeV (c r : Int) : Value := .complex .f64 (floatOfInt .f64 c) (floatOfInt .f64 r)
theorem back_int (P : Program) (t u : TypeId) (ht : (P.underlying t).isSome = true) (hu : P.underlying u = some (.int .i64)) (z : Int) (hz : z.natAbs < 2 ^ 53) (w : World) : (convert t u (.float .f64 (floatOfInt .f64 z))).run P w = .ok (.int .i64 z) w :=
  run_convert_float_int (P := P) w t u .f64 .i64 _ z ht hu (float_back z hz)
theorem back_at (z : Int) (hz : z.natAbs < 2 ^ 53) (w : World) : (convert 32 3 (.float .f64 (floatOfInt .f64 z))).run Tryd.prog w = .ok (.int .i64 z) w :=
  back_int _ _ _ (by rw [Tryd.underlying32]; rfl) Tryd.underlying3 z hz w
theorem ceil_rows {n d : Nat} (hn : 1 ≤ n) (hd : 1 ≤ d) : ceilZ (n : Int) (d : Int) = (rowsN n d : Int) := by
  rw [ceilZ, if_neg (by omega), ← rowsN_alt hn hd]
  have : ((n : Int) - 1) / (d : Int) = (((n - 1) / d : Nat) : Int) := by
    rw [Int.natCast_ediv, show ((n - 1 : Nat) : Int) = (n : Int) - 1 by omega]
  omega

theorem bound_any (most : Int) (w : World) :
    Calls Tryd.prog 21 #[.int .i64 most] w fun e w' => e = .returned (.int .i64 (boundZ most)) ∧ w = w' := by
  by_cases h : most ≤ 0
  · have hb : Hid (boundZ most = 9223372036854775807) := Lib.hid (if_pos h)
    go_enter Tryd.func21, Tryd.ntmps21
    go_wp2
    go_ret
    exact ⟨ret_int hb.out.symm, rfl⟩
  · have hb : Hid (boundZ most = most) := Lib.hid (if_neg h)
    go_enter Tryd.func21, Tryd.ntmps21
    go_wp2
    go_ret
    exact ⟨ret_int hb.out.symm, rfl⟩
theorem counted_any (z : Int) (across : Bool) (w : World) :
    Calls Tryd.prog 42 #[.int .i64 z, .bool across] w fun e w' => e = .returned (.int .i64 (if across = true then z else 0)) ∧ w = w' := by
  cases across with
  | true =>
    go_enter Tryd.func42, Tryd.ntmps42
    go_wp2
    go_ret
    exact ⟨rfl, rfl⟩
  | false =>
    go_enter Tryd.func42, Tryd.ntmps42
    go_wp2
    go_ret
    exact ⟨rfl, rfl⟩
theorem lceil_any (n d : Int) (w : World) (h1 : -9223372036854775808 ≤ n) (h2 : n ≤ 9223372036854775807) (h3 : -9223372036854775808 ≤ d) (h4 : d ≤ 9223372036854775807) :
    Calls Tryd.prog 41 #[.int .i64 n, .int .i64 d] w fun e w' => e = .returned (.int .i64 (ceilZ n d)) ∧ w = w' := by
  go_enter Tryd.func41, Tryd.ntmps41
  go_wp2_with fail
  refine (ceil_any n d _ h1 h2 h3 h4).mono ?_
  rintro e w2 ⟨rfl, rfl⟩
  go_wp2_with fail
  go_ret
  exact ⟨rfl, rfl⟩
theorem sized_any (n c : Int) (w : World) (h1 : 0 ≤ n) (h2 : n ≤ 1000000) (h3 : 0 ≤ c) (h4 : c ≤ 1000000) :
    Calls Tryd.prog 35 #[.int .i64 n, .int .i64 c] w fun e w' => e = .returned (sizeV c (ceilZ n c)) ∧ w = w' := by
  have HL := Lib.hid (lceil_any n c w (by omega) (by omega) (by omega) (by omega))
  obtain ⟨C, hC⟩ : ∃ C, ceilZ n c = C := ⟨_, rfl⟩
  rw [hC] at HL ⊢
  clear hC
  go_enter Tryd.func35, Tryd.ntmps35
  go_wp2_with fail
  refine HL.out.mono ?_
  rintro e w2 ⟨rfl, rfl⟩
  go_wp2_with fail
  go_ret
  exact ⟨rfl, rfl⟩
theorem quo_at (i c : Nat) (hc : 0 < c) : (i : Int).tdiv (c : Int) = ((i / c : Nat) : Int) ∧ (i : Int).tmod (c : Int) = ((i % c : Nat) : Int) ∧ i / c ≤ i ∧ i % c ≤ i ∧ ((c : Int) == 0) = false :=
  ⟨by rw [Int.tdiv_eq_ediv_of_nonneg (by omega), Int.natCast_ediv], by rw [Int.tmod_eq_emod_of_nonneg (by omega), Int.natCast_emod], Nat.div_le_self _ _, Nat.mod_le _ _, beq_eq_false_iff_ne.2 (by omega)⟩
theorem drawn_below (w : World) (m : Nat) : Below w.heap.size w (w.drewN m) := below_drewNb (Below.refl _ _)
set_option maxHeartbeats 2000000 in
theorem place_at (n cols i : Nat) (across : Bool) (w : World) (hi : i < n) (hc : 0 < cols) (hn : n ≤ 1000000) (hm : cols ≤ n) :
    Calls Tryd.prog 32 #[.int .i64 (i : Int), sizeV (cols : Int) (rowsN n cols : Int), .bool across] w fun e w' => e = .returned (.tuple #[.int .i64 ((colOf n cols across i : Nat) : Int), .int .i64 ((rowOf n cols across i : Nat) : Int)]) ∧ ∃ m, w' = w.drewN m := by
  have hr := rowsN_pos (n := n) (by omega) hc
  have hr2 := rowsN_le (n := n) (cols := cols) (by omega)
  cases across with
  | true =>
    have hb := back_at (cols : Int) (by omega) w
    obtain ⟨d1, d2, d3, d4, d5⟩ := quo_at i cols hc
    have HC := Lib.hid (show colOf n cols true i = i % cols from rfl)
    have HR := Lib.hid (show rowOf n cols true i = i / cols from rfl)
    generalize colOf n cols true i = C at *
    generalize rowOf n cols true i = R at *
    generalize i % cols = D at *
    generalize i / cols = E at *
    go_enter Tryd.func32, Tryd.ntmps32
    go_wp2_with fail
    go_quiet (fail)
    go_wp2_with fail
    go_ret2
    exact ⟨by rw [HC.out, HR.out]; rfl, _, rfl⟩
  | false =>
    obtain ⟨d1, d2, d3, d4, d5⟩ := quo_at i (rowsN n cols) hr
    have HC := Lib.hid (show colOf n cols false i = i / rowsN n cols from rfl)
    have HR := Lib.hid (show rowOf n cols false i = i % rowsN n cols from rfl)
    generalize colOf n cols false i = C at *
    generalize rowOf n cols false i = R at *
    generalize i % rowsN n cols = D at *
    generalize i / rowsN n cols = E at *
    generalize rowsN n cols = r at *
    have hb := back_at (r : Int) (by omega) w
    go_enter Tryd.func32, Tryd.ntmps32
    go_wp2_with fail
    go_quiet (fail)
    go_wp2_with fail
    go_ret2
    exact ⟨by rw [HC.out, HR.out]; rfl, _, rfl⟩
def fewerZ (n cols : Nat) (over : Int) (across : Bool) : Int := if across = true then (cols : Int) - 1 else max ((cols : Int) - ((over - 1) / 2 + 1)) ((rowsN n (rowsN n cols) : Int) - 1)
theorem fewer_any (n cols : Nat) (over : Int) (across : Bool) (w : World) (hc : 2 ≤ cols) (hm : cols ≤ n) (hn : n ≤ 1000000) (h1 : 0 < over) (h2 : over ≤ 1000000000) :
    Calls Tryd.prog 38 #[.int .i64 (n : Int), sizeV (cols : Int) (rowsN n cols : Int), .int .i64 over, .bool across] w fun e w' => e = .returned (.int .i64 (fewerZ n cols over across)) ∧ w = w' := by
  have hb := back_at (cols : Int) (by omega) w
  cases across with
  | true =>
    have HF := Lib.hid (show fewerZ n cols over true = (cols : Int) - 1 from rfl)
    generalize fewerZ n cols over true = F at *
    go_enter Tryd.func38, Tryd.ntmps38
    go_wp2
    go_ret
    exact ⟨ret_int HF.out.symm, rfl⟩
  | false =>
    have hr := rowsN_pos (n := n) (by omega) (show 0 < cols by omega)
    have hr2 := rowsN_le (n := n) (cols := cols) (by omega)
    have hq := least_two hc hm
    have hq2 := least_le (n := n) (cols := cols) (by omega) (by omega)
    have hcr := ceil_rows (n := n) (d := rowsN n cols) (by omega) (by omega)
    have HF := Lib.hid (show fewerZ n cols over false = max ((cols : Int) - ((over - 1) / 2 + 1)) ((rowsN n (rowsN n cols) : Int) - 1) from rfl)
    generalize fewerZ n cols over false = F at *
    generalize rowsN n (rowsN n cols) = q at *
    generalize rowsN n cols = r at *
    have HQ := Lib.hid hcr
    clear hcr
    have hb2 := back_at (r : Int) (by omega) w
    have HO := Lib.hid (show ceilZ over 2 = (over - 1) / 2 + 1 from by rw [ceilZ, if_neg (by omega)])
    go_enter Tryd.func38, Tryd.ntmps38
    go_wp2_with fail
    refine (lceil_any (n : Int) (r : Int) _ (by omega) (by omega) (by omega) (by omega)).mono ?_
    rintro e w2 ⟨rfl, rfl⟩
    rw [HQ.out]
    go_wp2_with fail
    refine (lceil_any over 2 _ (by omega) (by omega) (by omega) (by omega)).mono ?_
    rintro e w2 ⟨rfl, rfl⟩
    rw [HO.out]
    obtain ⟨D, hD⟩ : ∃ D, (over - 1) / 2 + 1 = D := ⟨_, rfl⟩
    have hD1 : 0 ≤ D ∧ D ≤ 1000000000 := by omega
    have HD := Lib.hid hD
    rw [hD]
    clear hD
    go_wp2_with fail
    all_goals (go_ret; exact ⟨ret_int (by rw [HF.out, HD.out]; omega), rfl⟩)
end Go.Proofs.YtemnbleacjpfcaaDoor.L
