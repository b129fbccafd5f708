/-
  What the listed package-level variables give the walks: the two cells of the library's table of trailing noughts. Conditions: none.
-/
import Derived.Test.YtghbamknhiiieaaDoorLaidErr
import Derived.Test.YtghbamknhiiieaaDoorTz
namespace Go.Proofs.YtghbamknhiiieaaDoor
open Go.ChangeShapes Go.WideShapes Go.ChangeAt Go.RowKit

def tz64 : List Int := [0, 1, 56, 2, 57, 49, 28, 3, 61, 58, 42, 50, 38, 29, 17, 4, 62, 47, 59, 36, 45, 43, 51, 22, 53, 39, 33, 30, 24, 18, 12, 5, 63, 55, 48, 27, 60, 41, 37, 16, 46, 35, 44, 21, 52, 32, 23, 11, 54, 26, 40, 15, 34, 20, 31, 10, 25, 14, 19, 9, 13, 8, 7, 6]
theorem gTz : Tryd.prog.globalNamed "math/bits.deBruijn64tab" = some 6 := by kernel_rfl
theorem gTzType : (Tryd.prog.globals[6]?).map (·.type) = some 103 := by kernel_rfl
theorem cellsTz : Tryd.prog.cellsOf 103 = 64 := by kernel_rfl
theorem cellsU8 : Tryd.prog.cellsOf 5 = 1 := by kernel_rfl

theorem tz_of {W : World} {a : String × DataW Unit} {rest : List (String × DataW Unit)} (h : laidMet Tryd.prog (a :: ("math/bits.deBruijn64tab", Rows.laid_math_bits_deBruijn64tab) :: rest) W) : TzTab W := by
  have t : Lib.TabIs Tryd.prog W "math/bits.deBruijn64tab" .u8 tz64 := Lib.tabIs_of_head (rest := rest) gTz gTzType Tryd.underlying103 Tryd.underlying5 cellsU8 cellsTz h.tail
  exact ⟨t.cell gTz 7 (by decide), t.cell gTz 15 (by decide)⟩
end Go.Proofs.YtghbamknhiiieaaDoor
