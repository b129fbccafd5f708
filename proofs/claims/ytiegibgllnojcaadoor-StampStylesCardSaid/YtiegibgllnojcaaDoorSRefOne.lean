/-
  The frame of the reference's One: a date in its block. Conditions: none.
-/
import Derived.Test.YtiegibgllnojcaaDoorSTell
import Derived.Test.YtiegibgllnojcaaDoorSTwo
import Derived.Test.YtiegibgllnojcaaDoorSRefDec
import Derived.Test.YtiegibgllnojcaaDoorDRefOf
import Derived.Deep.RegionHeld3
set_option linter.unusedVariables false
namespace Go.Proofs.YtiegibgllnojcaaDoor
open Go.RowKit

/-- A date that lies in the block B; nothing that lay there when the call began has changed. -/
structure InOne (w : World) (B : Nat) (y m d h i s wd yd : Int) (w0 : World) : Prop where
  below : Below w.heap.size w w0
  lt : B < w0.heap.size
  c0 : w0.cell? ⟨B, 0, none⟩ = some (.int .i64 y)
  c1 : w0.cell? ⟨B, 1, none⟩ = some (.int .i64 m)
  c2 : w0.cell? ⟨B, 2, none⟩ = some (.int .i64 d)
  c3 : w0.cell? ⟨B, 3, none⟩ = some (.int .i64 h)
  c4 : w0.cell? ⟨B, 4, none⟩ = some (.int .i64 i)
  c5 : w0.cell? ⟨B, 5, none⟩ = some (.int .i64 s)
  c6 : w0.cell? ⟨B, 6, none⟩ = some (.int .i64 wd)
  c7 : w0.cell? ⟨B, 7, none⟩ = some (.int .i64 yd)
theorem InOne.start {w w1 : World} (hb : Below w.heap.size w w1) (y m d h i s wd yd : Int) : InOne w w1.heap.size y m d h i s wd yd (w1.alloc (.cells #[.int .i64 y, .int .i64 m, .int .i64 d, .int .i64 h, .int .i64 i, .int .i64 s, .int .i64 wd, .int .i64 yd] 23)) := by
  refine ⟨hb.trans ((Below.refl _ _).alloc hb.size _), by simp, ?_, ?_, ?_, ?_, ?_, ?_, ?_, ?_⟩
  all_goals simp [go_sem]
variable {w w0 w' : World} {B : Nat} {y m d h i s wd yd : Int}
theorem InOne.keep (k : InOne w B y m d h i s wd yd w0) (hb : Below w0.heap.size w0 w') : InOne w B y m d h i s wd yd w' := by
  have l := k.lt
  have hs := hb.size
  exact ⟨below_two k.below (hb.mono (Nat.le_refl _)), by omega,
    by rw [hb.cell (p := ⟨B, 0, none⟩) l]; exact k.c0, by rw [hb.cell (p := ⟨B, 1, none⟩) l]; exact k.c1, by rw [hb.cell (p := ⟨B, 2, none⟩) l]; exact k.c2, by rw [hb.cell (p := ⟨B, 3, none⟩) l]; exact k.c3,
    by rw [hb.cell (p := ⟨B, 4, none⟩) l]; exact k.c4, by rw [hb.cell (p := ⟨B, 5, none⟩) l]; exact k.c5, by rw [hb.cell (p := ⟨B, 6, none⟩) l]; exact k.c6, by rw [hb.cell (p := ⟨B, 7, none⟩) l]; exact k.c7⟩
theorem InOne.drew (k : InOne w B y m d h i s wd yd w0) : InOne w B y m d h i s wd yd w0.drew := k.keep ⟨rfl, rfl, rfl, Nat.le_refl _, fun _ _ => rfl⟩
theorem rtwo_from (k : InOne w B y m d h i s wd yd w0) (n : Int) (h0 : 0 ≤ n) (h1 : n < 100) :
    Calls Tryd.prog 36 #[.int .i64 n] w0 fun e w' => e = .returned (.string (txt (twoL n.toNat))) ∧ InOne w B y m d h i s wd yd w' := by
  refine (refTwo_any n w0 h0 h1).mono ?_
  rintro e w' ⟨rfl, hb⟩
  exact ⟨rfl, k.keep hb⟩
theorem rdec_from (k : InOne w B y m d h i s wd yd w0) (n : Int) (h0 : -9223372036854775808 ≤ n) (h1 : n ≤ 9223372036854775807) :
    Calls Tryd.prog 35 #[.int .i64 n] w0 fun e w' => e = .returned (.string (txt (Lib.itoa n))) ∧ InOne w B y m d h i s wd yd w' := by
  refine (refDec_any n w0 h0 h1).mono ?_
  rintro e w' ⟨rfl, j, rfl⟩
  exact ⟨rfl, k.keep (below_draw (Below.refl _ _) j)⟩
theorem ret_told {a b : ByteArray} {p : Bool} (h : a = b) : Ending.returned (.tuple #[.string a, .bool p]) = .returned (.tuple #[.string b, .bool p]) := by rw [h]
theorem mon_at (m : Int) (h1 : 1 ≤ m) (h2 : m ≤ 12) (w : World) : (Instr.index 68 (.agg #[.string ⟨#[]⟩, .string ⟨#[74, 97, 110]⟩, .string ⟨#[70, 101, 98]⟩, .string ⟨#[77, 97, 114]⟩, .string ⟨#[65, 112, 114]⟩, .string ⟨#[77, 97, 121]⟩, .string ⟨#[74, 117, 110]⟩, .string ⟨#[74, 117, 108]⟩, .string ⟨#[65, 117, 103]⟩, .string ⟨#[83, 101, 112]⟩, .string ⟨#[79, 99, 116]⟩, .string ⟨#[78, 111, 118]⟩, .string ⟨#[68, 101, 99]⟩]) (.int .i64 m)).run Tryd.prog w = .ok (.string (txt (monName (m.toNat - 1)))) w := by
  rcases month_cases h1 h2 with rfl | rfl | rfl | rfl | rfl | rfl | rfl | rfl | rfl | rfl | rfl | rfl
  all_goals kernel_rfl
theorem day_cases {m : Int} (h1 : 0 ≤ m) (h2 : m ≤ 6) : m = 0 ∨ m = 1 ∨ m = 2 ∨ m = 3 ∨ m = 4 ∨ m = 5 ∨ m = 6 := by omega
theorem day_at (m : Int) (h1 : 0 ≤ m) (h2 : m ≤ 6) (w : World) : (Instr.index 65 (.agg #[.string ⟨#[83, 117, 110]⟩, .string ⟨#[77, 111, 110]⟩, .string ⟨#[84, 117, 101]⟩, .string ⟨#[87, 101, 100]⟩, .string ⟨#[84, 104, 117]⟩, .string ⟨#[70, 114, 105]⟩, .string ⟨#[83, 97, 116]⟩]) (.int .i64 m)).run Tryd.prog w = .ok (.string (txt (dayName m.toNat))) w := by
  rcases day_cases h1 h2 with rfl | rfl | rfl | rfl | rfl | rfl | rfl
  all_goals kernel_rfl
end Go.Proofs.YtiegibgllnojcaaDoor
