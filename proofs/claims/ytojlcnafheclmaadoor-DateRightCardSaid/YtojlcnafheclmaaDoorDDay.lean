/-
  What date.dayOf returns: the day of a year and a day of it. Conditions: the year is from -300000000000 to 300000000000, the day of the year from 0 to 1000.
-/
import Derived.Test.YtojlcnafheclmaaDoorDOf
namespace Go.Proofs.YtojlcnafheclmaaDoor
open Go.RowKit

/-- A callee that leaves the world alone, behind draws. -/
theorem quiet_behind {P : Program} {f : FuncId} {args : Array Value} {w : World} {a n : Nat} {v : Value} (h : Calls P f args (w.drewN (a + n)) fun e w' => e = .returned v ∧ w.drewN (a + n) = w') :
    Calls P f args (w.drewN (a + n)) fun e w' => e = .returned v ∧ ∃ m, w' = w.drewN (a + m) := by
  refine h.mono ?_
  rintro e w' ⟨he, rfl⟩
  exact ⟨he, n, rfl⟩
theorem day_sum (y yd : Int) : y / 400 * 146097 + aheadYear (y % 400) + yd - 1 - 719528 = toYear y + yd - 1 := by
  have e := toYear_400 (y % 400) (y / 400)
  rw [show y % 400 + 400 * (y / 400) = y by omega] at e
  have f := toYear_ahead (y % 400)
  omega

set_option maxHeartbeats 1000000 in
theorem dayOf_any (y m d h i s wd yd : Int) (w : World) (h1 : -300000000000 ≤ y) (h2 : y ≤ 300000000000) (h3 : 0 ≤ yd) (h4 : yd ≤ 1000) :
    Calls Tryd.prog 21 #[.agg #[.int .i64 y, .int .i64 m, .int .i64 d, .int .i64 h, .int .i64 i, .int .i64 s, .int .i64 wd, .int .i64 yd]] w fun e w' => e = .returned (.int .i64 (toYear y + yd - 1)) ∧ Below w.heap.size w w' := by
  have HS := Lib.hid (day_sum y yd)
  go_enter Tryd.func21, Tryd.ntmps21
  go_wp2_with fail
  refine (split_any _ _ _ (by omega) (by omega) (by omega) (by omega)).mono ?_
  rintro e w' ⟨rfl, k, rfl⟩
  have c1 : -750000000 ≤ y / 400 := by omega
  have c2 : y / 400 ≤ 750000000 := by omega
  have r1 : 0 ≤ y % 400 := by omega
  have r2 : y % 400 < 400 := by omega
  generalize y / 400 = c at *
  generalize y % 400 = r at *
  have ab := aheadYear_bd r r1 (by omega)
  have HA := Lib.hid ab
  go_wp2_with fail
  have q1 : IntKind.i64.wrap (c * 146097) = c * 146097 := IntWalk.i64_in _ (by omega)
  have q2 : IntKind.i64.wrap (c * 146097 + aheadYear r) = c * 146097 + aheadYear r := IntWalk.i64_in _ (by omega)
  have q3 : IntKind.i64.wrap (c * 146097 + aheadYear r + yd) = c * 146097 + aheadYear r + yd := IntWalk.i64_in _ (by omega)
  have q4 : IntKind.i64.wrap (c * 146097 + aheadYear r + yd - 1) = c * 146097 + aheadYear r + yd - 1 := IntWalk.i64_in _ (by omega)
  have q5 : IntKind.i64.wrap (c * 146097 + aheadYear r + yd - 1 - 719528) = c * 146097 + aheadYear r + yd - 1 - 719528 := IntWalk.i64_in _ (by omega)
  have ha : ∀ W : World, Calls Tryd.prog 27 #[.int .i64 r] W fun e w' => e = .returned (.int .i64 (aheadYear r)) ∧ W = w' := fun W => ahead_any r W r1 (by omega)
  have HC := Lib.hid ha
  clear ab ha
  generalize aheadYear r = A at *
  go_quiet ((go_at_call 27; exact quiet_behind (HC.out _)))
  clear q1 q2 q3 q4 q5
  go_wp2_with fail
  go_ret
  exact ⟨ret_int HS.out, below_draw (below_draw ((Below.refl _ _).alloc (Nat.le_refl _) _) _) _⟩
end Go.Proofs.YtojlcnafheclmaaDoor
