/-
  What the law's awake returns: true. Conditions: the table of months lies as the text lays it.
-/
import Derived.Test.YtojlcnafheclmaaDoorDOf
namespace Go.Proofs.YtojlcnafheclmaaDoor
open Go.RowKit

theorem first_date : ∃ y m d i s wd yd, dateV (0 + offB 3600) = dv y m d 1 i s wd yd := ⟨_, _, _, _, _, _, _, rfl⟩
theorem feb_2000 : monthLen 2000 2 = 29 := by decide
theorem awake_any (w : World) (ht : Tab w) :
    Calls Tryd.prog 10 #[] w fun e w' => e = .returned (.bool true) ∧ Below w.heap.size w w' := by
  have HT := Lib.hid ht
  clear ht
  go_enter Tryd.func10, Tryd.ntmps10
  go_wp2_with fail
  refine (of_any _ _ _ (by omega) (by omega) HT.out).mono ?_
  rintro e w1 ⟨rfl, hb⟩
  obtain ⟨y, m, d, i, s, wd, yd, he⟩ := first_date
  rw [he, agg_of]
  have HB := Lib.hid hb
  clear hb he
  have hfd : ∀ w : World, (Instr.field 23 (.agg #[.int .i64 y, .int .i64 m, .int .i64 d, .int .i64 1, .int .i64 i, .int .i64 s, .int .i64 wd, .int .i64 yd]) 3).run Tryd.prog w = .ok (.int .i64 1) w := fun _ => by kernel_rfl
  go_wp2_with fail
  clear hfd
  refine (days_any _ _ _ (by omega) (by omega) (HT.out.keep HB.out)).mono ?_
  rintro e w2 ⟨rfl, rfl⟩
  rw [feb_2000]
  go_wp2_with fail
  go_ret
  exact ⟨rfl, HB.out⟩
end Go.Proofs.YtojlcnafheclmaaDoor
