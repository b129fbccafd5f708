/-
  What the listed package-level variable gives the walks: the table of months, cell by cell. Conditions: none.
-/
import Derived.Test.YtojlcnafheclmaaDoorCards
import Derived.Test.YtojlcnafheclmaaDoorTie
import Derived.Test.YtojlcnafheclmaaDoorDBase
import Derived.ProofKit
import Derived.Lib.LaidTab
import Derived.OpenShut
import Derived.ShutString
import Derived.ChangeOld
import Derived.Below
import Derived.LaidMore
import Derived.ChangeSame
import Derived.Deep.DeepHandedRow
import Derived.Deep.DeepWitnessRowRef
import Derived.Stop.LaidErr
namespace Go.Proofs.YtojlcnafheclmaaDoor
open Go.ChangeShapes Go.WideShapes Go.ChangeAt Go.RowKit

theorem own : ownKnob Tryd.prog.godebug = none := by kernel_rfl
theorem laidOut : laidOutB Tryd.prog = true := by kernel_rfl
theorem gLen : Tryd.prog.globalNamed "domesday/date.lengths" = some 0 := by kernel_rfl
theorem gLenType : (Tryd.prog.globals[0]?).map (·.type) = some 44 := by kernel_rfl
theorem cellsLen : Tryd.prog.cellsOf 44 = 12 := by kernel_rfl
theorem cellsInt : Tryd.prog.cellsOf 3 = 1 := by kernel_rfl
def lens : List Int := [31, 28, 31, 30, 31, 30, 31, 31, 30, 31, 30, 31]

theorem tab_of {W : World} {rest : List (String × DataW Unit)} (h : laidMet Tryd.prog (("domesday/date.lengths", Rows.laid_domesday_date_lengths) :: rest) W) : Tab W := by
  have t : Lib.TabIs Tryd.prog W "domesday/date.lengths" .i64 lens := Lib.tabIs_of_head (rest := rest) gLen gLenType Tryd.underlying44 Tryd.underlying3 cellsInt cellsLen h
  refine ⟨fun k hk => ?_⟩
  have := t.cell gLen k hk
  rw [this]
  match k, hk with
  | 0, _ => rfl
  | 1, _ => rfl
  | 2, _ => rfl
  | 3, _ => rfl
  | 4, _ => rfl
  | 5, _ => rfl
  | 6, _ => rfl
  | 7, _ => rfl
  | 8, _ => rfl
  | 9, _ => rfl
  | 10, _ => rfl
  | 11, _ => rfl
end Go.Proofs.YtojlcnafheclmaaDoor
