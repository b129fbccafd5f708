/-
  What the library's count of trailing noughts returns at 8 and at 16. Conditions: the library's table lies as its text lays it.
-/
import Derived.Test.YtigkdehaepenhaaDoorDec
namespace Go.Proofs.YtigkdehaepenhaaDoor.N
open Go.RowKit

/-- The two cells of the library's table that are read. -/
def TzTab (w : World) : Prop := w.cell? ⟨4, 7, none⟩ = some (.int .u8 3) ∧ w.cell? ⟨4, 15, none⟩ = some (.int .u8 4)

set_option maxHeartbeats 400000 in
theorem tz_eight (w : World) (ht : TzTab w) : Calls Tryd.prog 81 #[.int .u64 8] w fun e w' => e = .returned (.int .i64 3) ∧ w = w' := by
  obtain ⟨h1, _⟩ := ht
  have e8 : IntKind.u64.wrap (bits BinOp.and IntKind.u64 8 (IntKind.u64.wrap (-8)) * 285870213051353865) / 288230376151711744 = 7 := by decide +kernel
  go_enter Tryd.func81, Tryd.ntmps81
  go_wp2
  go_ret
  exact ⟨rfl, rfl⟩
set_option maxHeartbeats 400000 in
theorem tz_sixteen (w : World) (ht : TzTab w) : Calls Tryd.prog 81 #[.int .u64 16] w fun e w' => e = .returned (.int .i64 4) ∧ w = w' := by
  obtain ⟨_, h2⟩ := ht
  have e16 : IntKind.u64.wrap (bits BinOp.and IntKind.u64 16 (IntKind.u64.wrap (-16)) * 285870213051353865) / 288230376151711744 = 15 := by decide +kernel
  go_enter Tryd.func81, Tryd.ntmps81
  go_wp2
  go_ret
  exact ⟨rfl, rfl⟩
end Go.Proofs.YtigkdehaepenhaaDoor.N
