/-
  What the listed library variables give the walks: the two tables of unicode/utf8; and that the library's one other variable holds a number. Conditions: none.
-/
import Derived.Test.YtknfhphhcnbndaaGreatDoorCards
import Derived.Test.YtknfhphhcnbndaaGreatDoorTie
import Derived.Test.YtknfhphhcnbndaaGreatDoorGQBase
import Derived.ProofKit
import Derived.OpenShut
import Derived.ShutString
import Derived.ChangeOld
import Derived.Below
import Derived.LaidMore
import Derived.Lay
import Derived.Deep.Slices
import Derived.Deep.Fields
import Derived.ChangeSame
import Derived.Deep.DeepHandedRow
import Derived.Deep.DeepWitnessRowRef
import Derived.Stop.LaidErr
set_option linter.unusedVariables false
set_option linter.unusedSimpArgs false
namespace Go.Proofs.YtknfhphhcnbndaaGreatDoor.Q
open Go.ChangeShapes Go.WideShapes Go.ChangeAt Go.RowKit Go.Deep

theorem own : ownKnob Tryz.prog.godebug = none := by kernel_rfl
theorem laidOut : laidOutB Tryz.prog = true := by kernel_rfl
theorem u8Extra : U8Extra Tryz.prog Tryz.lays197_ren := { n3 := by kernel_rfl, n4 := by kernel_rfl, y3 := by kernel_rfl, y4 := by kernel_rfl, c5 := by kernel_rfl, c119 := by kernel_rfl, c138 := by kernel_rfl }
theorem first_is : (Rows.laid_unicode_utf8_first : DataW Unit) = Lib.firstData := by kernel_rfl
theorem accept_is : (Rows.laid_unicode_utf8_acceptRanges : DataW Unit) = Lib.acceptData := by kernel_rfl
theorem tab_of {W : World} (h : laidMet Tryz.prog [("unicode/utf8.acceptRanges", Rows.laid_unicode_utf8_acceptRanges), ("unicode/utf8.first", Rows.laid_unicode_utf8_first)] W) (hsh : W.ShapedOpen Tryz.prog) : Tab W := by
  refine ⟨utf8Tabs_of_reads { Tryz.lays197 with } u8Extra ?_ ?_, Tryz.laysM155.s1_3 W hsh⟩
  · rw [← first_is]; exact Lib.laidMet.reads h (by simp)
  · rw [← accept_is]; exact Lib.laidMet.reads h (by simp)
end Go.Proofs.YtknfhphhcnbndaaGreatDoor.Q
