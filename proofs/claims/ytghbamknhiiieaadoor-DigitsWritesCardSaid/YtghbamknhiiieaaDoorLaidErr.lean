/-
  What the listed package-level variables give the walks: the library's two errors are there. Conditions: none.
-/
import Derived.Test.YtghbamknhiiieaaDoorLaid
import Derived.Test.YtghbamknhiiieaaDoorRead
import Derived.LaidLaws
namespace Go.Proofs.YtghbamknhiiieaaDoor
open Go.ChangeShapes Go.WideShapes Go.ChangeAt Go.RowKit

theorem star : ("*" ++ "errors.errorString" : String) = "*errors.errorString" := by decide +kernel
theorem rowErr (u : TypeId) (h : Tryd.prog.typeName? 3 u = some "*errors.errorString") : u = 96 :=
  typeName_ptr_named (nm := "errors.errorString") (by rw [star]; kernel_rfl) (by kernel_rfl) (by decide) u (by rw [star]; exact h)
theorem gSynType : (Tryd.prog.globals[3]?).map (·.type) = some 42 := by kernel_rfl
theorem gRngType : (Tryd.prog.globals[4]?).map (·.type) = some 42 := by kernel_rfl
theorem cellsErr : Tryd.prog.cellsOf 98 = 1 := by kernel_rfl
theorem cellsStr : Tryd.prog.cellsOf 9 = 1 := by kernel_rfl

theorem errs_of {W : World} {a b c : String × DataW Unit} {rest : List (String × DataW Unit)} (h : laidMet Tryd.prog (a :: b :: c :: ("strconv.ErrRange", Rows.laid_strconv_ErrRange) :: ("strconv.ErrSyntax", Rows.laid_strconv_ErrSyntax) :: rest) W) : Errs W := by
  obtain ⟨a1, s1, hv1, _, _, _⟩ := laid_sentinel h.tail.tail.tail gRng gRngType Tryd.underlying42 rowErr Tryd.underlying96 Tryd.underlying98 rfl rfl Tryd.underlying9 cellsErr cellsStr
  obtain ⟨a2, s2, hv2, _, _, _⟩ := laid_sentinel h.tail.tail.tail.tail gSyn gSynType Tryd.underlying42 rowErr Tryd.underlying96 Tryd.underlying98 rfl rfl Tryd.underlying9 cellsErr cellsStr
  exact ⟨⟨_, _, hv2⟩, _, _, hv1⟩
end Go.Proofs.YtghbamknhiiieaaDoor
