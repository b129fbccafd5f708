/-
  NARROWER THAN 'FOR EVERY INPUT', by the rows' own cells (each row's printed sentence says how): DateOf: laid · DateMonths: laid · DateRight: laid · DateNext: laid · DateCycles: laid.
  DERIVED. THE GIVEN ROWS OF THIS SEAT. 5 by the template 'for every input the law returns true; each argument reads behind the call as it read before'; 0 by the template 'total and deterministic' (their statements: YtojlcnafheclmaaDoorTotals.lean).
  GIVEN WITH THE SEED: the statements are not yours to turn. If you find one false, say at which input.
  Laid BY PROGRAM, IN A SANDBOX (cutbox-rows.mjs): the forced cells as the released guide's own fill.sh prints them over the translation fff37908b3fb7b13… (all of the seat's roots in one cut). By AI agents, Wed Nov 11 2026. No macro, syntax, notation, axiom, sorry.
-/
import Derived.Test.YtojlcnafheclmaaDoorChecked
import GoSem.Claim
import GoSem.ClaimJoined
import GoSem.ClaimMapViews
import Derived.JoinedTies
import Derived.KernelRfl
namespace Go.Proofs.YtojlcnafheclmaaDoor
/- THE CELL 'sum', in the pinned program and in every row, IS THE sha256 OF THE DUMP (.gsa) THAT YtojlcnafheclmaaDoorProg.lean LOADS. Nothing in Lean hashes anything: it is a label: what it is worth is what the hold of that sum in a sandbox is worth. -/
noncomputable def Tryd.pinned : Pinned := { name := "ytojlcnafheclmaadoor", sum := "fff37908b3fb7b1349627c14c02d56a8a6f3fc49c73397681558258ffd39feba", checked := Tryd.checked }
namespace Rows
def none {H : Type} : Left H := { results := [], args := [] }

/- WHAT THE LISTED PACKAGE-LEVEL VARIABLES READ AS WHEN THE CALL BEGINS. Each datum BY PROGRAM (the guide's laid-datum.mjs) off the statement by which the dump's own 'gosem.cut.vars' lays the variable. In a bare row this is a premise. The card (YtojlcnafheclmaaDoorCards.lean) ties it to the program's text. -/
def laid_domesday_date_lengths {H : Type} : DataW H := .agg [.lit (.int .i64 31), .lit (.int .i64 28), .lit (.int .i64 31), .lit (.int .i64 30), .lit (.int .i64 31), .lit (.int .i64 30), .lit (.int .i64 31), .lit (.int .i64 31), .lit (.int .i64 30), .lit (.int .i64 31), .lit (.int .i64 30), .lit (.int .i64 31)]

/-- 'domesdaylaw04.DateOf': WHATEVER THE INPUT: true; the input reads as it did. -/
def dateOfSpec : ChangeSpec := { name := "dateOf", fn := fun _ => fun
  | [d1, d2] => { results := [.lit (.bool true)], args := [d1, d2] }
  | _ => none }
def dateOfRow : OpenClaim := { program := "ytojlcnafheclmaadoor", sum := "fff37908b3fb7b1349627c14c02d56a8a6f3fc49c73397681558258ffd39feba", func := "domesday/domesdaylaw04.DateOf", spec := "dateOf", named := ["domesday/date.lengths"], apart := false, laid := [("domesday/date.lengths", laid_domesday_date_lengths)] }
def DateOfSaid : Prop := dateOfRow.holds Tryd.pinned (OpenSpec.ofChange dateOfSpec)

/-- ITS FALSE NEIGHBOUR: 'it returns false'. Refute it at one input. -/
def dateOfWrong : ChangeSpec := { name := "dateOf", fn := fun _ => fun
  | [d1, d2] => { results := [.lit (.bool false)], args := [d1, d2] }
  | _ => none }
def DateOfWrongFalsely : Prop := dateOfRow.holds Tryd.pinned (OpenSpec.ofChange dateOfWrong)

/-- 'domesdaylaw04.DateMonths': WHATEVER THE INPUT: true; the input reads as it did. -/
def dateMonthsSpec : ChangeSpec := { name := "dateMonths", fn := fun _ => fun
  | [d1, d2] => { results := [.lit (.bool true)], args := [d1, d2] }
  | _ => none }
def dateMonthsRow : OpenClaim := { program := "ytojlcnafheclmaadoor", sum := "fff37908b3fb7b1349627c14c02d56a8a6f3fc49c73397681558258ffd39feba", func := "domesday/domesdaylaw04.DateMonths", spec := "dateMonths", named := ["domesday/date.lengths"], apart := false, laid := [("domesday/date.lengths", laid_domesday_date_lengths)] }
def DateMonthsSaid : Prop := dateMonthsRow.holds Tryd.pinned (OpenSpec.ofChange dateMonthsSpec)

/-- ITS FALSE NEIGHBOUR: 'it returns false'. Refute it at one input. -/
def dateMonthsWrong : ChangeSpec := { name := "dateMonths", fn := fun _ => fun
  | [d1, d2] => { results := [.lit (.bool false)], args := [d1, d2] }
  | _ => none }
def DateMonthsWrongFalsely : Prop := dateMonthsRow.holds Tryd.pinned (OpenSpec.ofChange dateMonthsWrong)

/-- 'domesdaylaw04.DateRight': WHATEVER THE INPUT: true; the input reads as it did. -/
def dateRightSpec : ChangeSpec := { name := "dateRight", fn := fun _ => fun
  | [d1, d2] => { results := [.lit (.bool true)], args := [d1, d2] }
  | _ => none }
def dateRightRow : OpenClaim := { program := "ytojlcnafheclmaadoor", sum := "fff37908b3fb7b1349627c14c02d56a8a6f3fc49c73397681558258ffd39feba", func := "domesday/domesdaylaw04.DateRight", spec := "dateRight", named := ["domesday/date.lengths"], apart := false, laid := [("domesday/date.lengths", laid_domesday_date_lengths)] }
def DateRightSaid : Prop := dateRightRow.holds Tryd.pinned (OpenSpec.ofChange dateRightSpec)

/-- ITS FALSE NEIGHBOUR: 'it returns false'. Refute it at one input. -/
def dateRightWrong : ChangeSpec := { name := "dateRight", fn := fun _ => fun
  | [d1, d2] => { results := [.lit (.bool false)], args := [d1, d2] }
  | _ => none }
def DateRightWrongFalsely : Prop := dateRightRow.holds Tryd.pinned (OpenSpec.ofChange dateRightWrong)

/-- 'domesdaylaw04.DateNext': WHATEVER THE INPUT: true; the input reads as it did. -/
def dateNextSpec : ChangeSpec := { name := "dateNext", fn := fun _ => fun
  | [d1, d2] => { results := [.lit (.bool true)], args := [d1, d2] }
  | _ => none }
def dateNextRow : OpenClaim := { program := "ytojlcnafheclmaadoor", sum := "fff37908b3fb7b1349627c14c02d56a8a6f3fc49c73397681558258ffd39feba", func := "domesday/domesdaylaw04.DateNext", spec := "dateNext", named := ["domesday/date.lengths"], apart := false, laid := [("domesday/date.lengths", laid_domesday_date_lengths)] }
def DateNextSaid : Prop := dateNextRow.holds Tryd.pinned (OpenSpec.ofChange dateNextSpec)

/-- ITS FALSE NEIGHBOUR: 'it returns false'. Refute it at one input. -/
def dateNextWrong : ChangeSpec := { name := "dateNext", fn := fun _ => fun
  | [d1, d2] => { results := [.lit (.bool false)], args := [d1, d2] }
  | _ => none }
def DateNextWrongFalsely : Prop := dateNextRow.holds Tryd.pinned (OpenSpec.ofChange dateNextWrong)

/-- 'domesdaylaw04.DateCycles': WHATEVER THE INPUT: true; the input reads as it did. -/
def dateCyclesSpec : ChangeSpec := { name := "dateCycles", fn := fun _ => fun
  | [d1, d2, d3] => { results := [.lit (.bool true)], args := [d1, d2, d3] }
  | _ => none }
def dateCyclesRow : OpenClaim := { program := "ytojlcnafheclmaadoor", sum := "fff37908b3fb7b1349627c14c02d56a8a6f3fc49c73397681558258ffd39feba", func := "domesday/domesdaylaw04.DateCycles", spec := "dateCycles", named := ["domesday/date.lengths"], apart := false, laid := [("domesday/date.lengths", laid_domesday_date_lengths)] }
def DateCyclesSaid : Prop := dateCyclesRow.holds Tryd.pinned (OpenSpec.ofChange dateCyclesSpec)

/-- ITS FALSE NEIGHBOUR: 'it returns false'. Refute it at one input. -/
def dateCyclesWrong : ChangeSpec := { name := "dateCycles", fn := fun _ => fun
  | [d1, d2, d3] => { results := [.lit (.bool false)], args := [d1, d2, d3] }
  | _ => none }
def DateCyclesWrongFalsely : Prop := dateCyclesRow.holds Tryd.pinned (OpenSpec.ofChange dateCyclesWrong)

/- THE SECOND FORM. 'bulk': how many values and letters a reading holds, each counted each time it is reached (what is shared counts as often as it is met; a slice's spare places count too). A statement '..UptoSaid' is the law's where the arguments, and the package variables that the reading takes, are together of bulk at most 1048576: NARROWER than '..Said'. Prove '..Said' where nothing that the law and all that it calls make is longer than what came in: it says more and counts as full. Else prove '..UptoSaid'. A law counts once. -/
mutual
def uptoBulk {H : Type} : DataW H → Nat
  | .lit (.string bytes) => bytes.length + 1
  | .lit _ => 1
  | .nil => 1
  | .ptr d => uptoBulk d + 1
  | .slice elems spare => uptoBulkAll elems + uptoBulkAll spare + 1
  | .agg parts => uptoBulkAll parts + 1
  | .iface _ d => uptoBulk d + 1
  | .map entries => uptoBulkEntries entries + 1
  | .held _ => 1
def uptoBulkAll {H : Type} : List (DataW H) → Nat
  | [] => 0
  | d :: r => uptoBulk d + uptoBulkAll r
def uptoBulkEntries {H : Type} : List (Lit × DataW H) → Nat
  | [] => 0
  | x :: r => uptoBulkEntry x + uptoBulkEntries r
def uptoBulkEntry {H : Type} : Lit × DataW H → Nat
  | (.string bytes, d) => bytes.length + uptoBulk d + 1
  | (_, d) => uptoBulk d + 1
 end
def uptoSmall : (H : Type) → List (DataW H) → Bool := fun _ ds => decide (uptoBulkAll ds ≤ 1048576)
def OpenSpec.upto (s : _root_.Go.ChangeSpec) : _root_.Go.OpenSpec := { _root_.Go.OpenSpec.ofChange s with cond := some uptoSmall }

/-- 'domesdaylaw04.DateOf', WHERE WHAT IT READS IS OF BULK AT MOST 1048576: true; the input reads as it did. -/
def dateOfUptoRow : OpenClaim := { program := "ytojlcnafheclmaadoor", sum := "fff37908b3fb7b1349627c14c02d56a8a6f3fc49c73397681558258ffd39feba", func := "domesday/domesdaylaw04.DateOf", spec := "dateOf", named := ["domesday/date.lengths"], apart := false, laid := [("domesday/date.lengths", laid_domesday_date_lengths)], narrowed := true }
def DateOfUptoSaid : Prop := dateOfUptoRow.holds Tryd.pinned (OpenSpec.upto dateOfSpec)

/-- 'domesdaylaw04.DateMonths', WHERE WHAT IT READS IS OF BULK AT MOST 1048576: true; the input reads as it did. -/
def dateMonthsUptoRow : OpenClaim := { program := "ytojlcnafheclmaadoor", sum := "fff37908b3fb7b1349627c14c02d56a8a6f3fc49c73397681558258ffd39feba", func := "domesday/domesdaylaw04.DateMonths", spec := "dateMonths", named := ["domesday/date.lengths"], apart := false, laid := [("domesday/date.lengths", laid_domesday_date_lengths)], narrowed := true }
def DateMonthsUptoSaid : Prop := dateMonthsUptoRow.holds Tryd.pinned (OpenSpec.upto dateMonthsSpec)

/-- 'domesdaylaw04.DateRight', WHERE WHAT IT READS IS OF BULK AT MOST 1048576: true; the input reads as it did. -/
def dateRightUptoRow : OpenClaim := { program := "ytojlcnafheclmaadoor", sum := "fff37908b3fb7b1349627c14c02d56a8a6f3fc49c73397681558258ffd39feba", func := "domesday/domesdaylaw04.DateRight", spec := "dateRight", named := ["domesday/date.lengths"], apart := false, laid := [("domesday/date.lengths", laid_domesday_date_lengths)], narrowed := true }
def DateRightUptoSaid : Prop := dateRightUptoRow.holds Tryd.pinned (OpenSpec.upto dateRightSpec)

/-- 'domesdaylaw04.DateNext', WHERE WHAT IT READS IS OF BULK AT MOST 1048576: true; the input reads as it did. -/
def dateNextUptoRow : OpenClaim := { program := "ytojlcnafheclmaadoor", sum := "fff37908b3fb7b1349627c14c02d56a8a6f3fc49c73397681558258ffd39feba", func := "domesday/domesdaylaw04.DateNext", spec := "dateNext", named := ["domesday/date.lengths"], apart := false, laid := [("domesday/date.lengths", laid_domesday_date_lengths)], narrowed := true }
def DateNextUptoSaid : Prop := dateNextUptoRow.holds Tryd.pinned (OpenSpec.upto dateNextSpec)

/-- 'domesdaylaw04.DateCycles', WHERE WHAT IT READS IS OF BULK AT MOST 1048576: true; the input reads as it did. -/
def dateCyclesUptoRow : OpenClaim := { program := "ytojlcnafheclmaadoor", sum := "fff37908b3fb7b1349627c14c02d56a8a6f3fc49c73397681558258ffd39feba", func := "domesday/domesdaylaw04.DateCycles", spec := "dateCycles", named := ["domesday/date.lengths"], apart := false, laid := [("domesday/date.lengths", laid_domesday_date_lengths)], narrowed := true }
def DateCyclesUptoSaid : Prop := dateCyclesUptoRow.holds Tryd.pinned (OpenSpec.upto dateCyclesSpec)

end Rows
end Go.Proofs.YtojlcnafheclmaaDoor
