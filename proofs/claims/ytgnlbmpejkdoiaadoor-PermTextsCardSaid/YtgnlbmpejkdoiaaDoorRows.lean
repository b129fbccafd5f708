/-
  NARROWER THAN 'FOR EVERY INPUT', by the rows' own cells (each row's printed sentence says how): PermMay: laid · PermTexts: laid · PermEach: laid.
  DERIVED. THE GIVEN ROWS OF THIS SEAT. 3 by the template 'for every input the law returns true; each argument reads behind the call as it read before'; 0 by the template 'total and deterministic' (their statements: YtgnlbmpejkdoiaaDoorTotals.lean).
  GIVEN WITH THE SEED: the statements are not yours to turn. If you find one false, say at which input.
  Laid BY PROGRAM, IN A SANDBOX (cutbox-rows.mjs): the forced cells as the released guide's own fill.sh prints them over the translation 0483b2c878327f9d… (all of the seat's roots in one cut). By AI agents, Wed Nov 11 2026. No macro, syntax, notation, axiom, sorry.
-/
import Derived.Test.YtgnlbmpejkdoiaaDoorChecked
import GoSem.Claim
import GoSem.ClaimJoined
import GoSem.ClaimMapViews
import Derived.JoinedTies
import Derived.KernelRfl
namespace Go.Proofs.YtgnlbmpejkdoiaaDoor
/- THE CELL 'sum', in the pinned program and in every row, IS THE sha256 OF THE DUMP (.gsa) THAT YtgnlbmpejkdoiaaDoorProg.lean LOADS. Nothing in Lean hashes anything: it is a label: what it is worth is what the hold of that sum in a sandbox is worth. -/
noncomputable def Tryd.pinned : Pinned := { name := "ytgnlbmpejkdoiaadoor", sum := "0483b2c878327f9d86e32415d48893427d6613daec5cb27bae33166211557e18", checked := Tryd.checked }
namespace Rows
def none {H : Type} : Left H := { results := [], args := [] }

/- WHAT THE LISTED PACKAGE-LEVEL VARIABLES READ AS WHEN THE CALL BEGINS. Each datum BY PROGRAM (the guide's laid-datum.mjs) off the statement by which the dump's own 'gosem.cut.vars' lays the variable. In a bare row this is a premise. The card (YtgnlbmpejkdoiaaDoorCards.lean) ties it to the program's text. -/
def laid_domesday_perm_classes {H : Type} : DataW H := .agg [.agg [.lit (.int .i64 6), .lit (.int .i64 11), .lit (.string [115]), .lit (.string [83])], .agg [.lit (.int .i64 3), .lit (.int .i64 10), .lit (.string [115]), .lit (.string [83])], .agg [.lit (.int .i64 0), .lit (.int .i64 9), .lit (.string [116]), .lit (.string [84])]]

/-- 'domesdaylaw07.PermMay': WHATEVER THE INPUT: true; the input reads as it did. -/
def permMaySpec : ChangeSpec := { name := "permMay", fn := fun _ => fun
  | [d1, d2, d3] => { results := [.lit (.bool true)], args := [d1, d2, d3] }
  | _ => none }
def permMayRow : OpenClaim := { program := "ytgnlbmpejkdoiaadoor", sum := "0483b2c878327f9d86e32415d48893427d6613daec5cb27bae33166211557e18", func := "domesday/domesdaylaw07.PermMay", spec := "permMay", inPlace := ["internal/abi.NoEscape"], named := ["domesday/perm.classes"], apart := false, laid := [("domesday/perm.classes", laid_domesday_perm_classes)] }
def PermMaySaid : Prop := permMayRow.holds Tryd.pinned (OpenSpec.ofChange permMaySpec)

/-- ITS FALSE NEIGHBOUR: 'it returns false'. Refute it at one input. -/
def permMayWrong : ChangeSpec := { name := "permMay", fn := fun _ => fun
  | [d1, d2, d3] => { results := [.lit (.bool false)], args := [d1, d2, d3] }
  | _ => none }
def PermMayWrongFalsely : Prop := permMayRow.holds Tryd.pinned (OpenSpec.ofChange permMayWrong)

/-- 'domesdaylaw07.PermTexts': WHATEVER THE INPUT: true; the input reads as it did. -/
def permTextsSpec : ChangeSpec := { name := "permTexts", fn := fun _ => fun
  | [d] => { results := [.lit (.bool true)], args := [d] }
  | _ => none }
def permTextsRow : OpenClaim := { program := "ytgnlbmpejkdoiaadoor", sum := "0483b2c878327f9d86e32415d48893427d6613daec5cb27bae33166211557e18", func := "domesday/domesdaylaw07.PermTexts", spec := "permTexts", inPlace := ["internal/abi.NoEscape"], named := ["domesday/perm.classes"], apart := false, laid := [("domesday/perm.classes", laid_domesday_perm_classes)] }
def PermTextsSaid : Prop := permTextsRow.holds Tryd.pinned (OpenSpec.ofChange permTextsSpec)

/-- ITS FALSE NEIGHBOUR: 'it returns false'. Refute it at one input. -/
def permTextsWrong : ChangeSpec := { name := "permTexts", fn := fun _ => fun
  | [d] => { results := [.lit (.bool false)], args := [d] }
  | _ => none }
def PermTextsWrongFalsely : Prop := permTextsRow.holds Tryd.pinned (OpenSpec.ofChange permTextsWrong)

/-- 'domesdaylaw07.PermEach': WHATEVER THE INPUT: true; the input reads as it did. -/
def permEachSpec : ChangeSpec := { name := "permEach", fn := fun _ => fun
  | [d1, d2, d3] => { results := [.lit (.bool true)], args := [d1, d2, d3] }
  | _ => none }
def permEachRow : OpenClaim := { program := "ytgnlbmpejkdoiaadoor", sum := "0483b2c878327f9d86e32415d48893427d6613daec5cb27bae33166211557e18", func := "domesday/domesdaylaw07.PermEach", spec := "permEach", inPlace := ["internal/abi.NoEscape"], named := ["domesday/perm.classes"], apart := false, laid := [("domesday/perm.classes", laid_domesday_perm_classes)] }
def PermEachSaid : Prop := permEachRow.holds Tryd.pinned (OpenSpec.ofChange permEachSpec)

/-- ITS FALSE NEIGHBOUR: 'it returns false'. Refute it at one input. -/
def permEachWrong : ChangeSpec := { name := "permEach", fn := fun _ => fun
  | [d1, d2, d3] => { results := [.lit (.bool false)], args := [d1, d2, d3] }
  | _ => none }
def PermEachWrongFalsely : Prop := permEachRow.holds Tryd.pinned (OpenSpec.ofChange permEachWrong)

/- THE SECOND FORM. 'bulk': how many values and letters a reading holds, each counted each time it is reached (what is shared counts as often as it is met; a slice's spare places count too). A statement '..UptoSaid' is the law's where the arguments, and the package variables that the reading takes, are together of bulk at most 1048576: NARROWER than '..Said'. Prove '..Said' where nothing that the law and all that it calls make is longer than what came in: it says more and counts as full. Else prove '..UptoSaid'. A law counts once. -/
mutual
def uptoBulk {H : Type} : DataW H → Nat
  | .lit (.string bytes) => bytes.length + 1
  | .lit _ => 1
  | .nil => 1
  | .ptr d => uptoBulk d + 1
  | .slice elems spare => uptoBulkAll elems + uptoBulkAll spare + 1
  | .agg parts => uptoBulkAll parts + 1
  | .iface _ d => uptoBulk d + 1
  | .map entries => uptoBulkEntries entries + 1
  | .held _ => 1
def uptoBulkAll {H : Type} : List (DataW H) → Nat
  | [] => 0
  | d :: r => uptoBulk d + uptoBulkAll r
def uptoBulkEntries {H : Type} : List (Lit × DataW H) → Nat
  | [] => 0
  | x :: r => uptoBulkEntry x + uptoBulkEntries r
def uptoBulkEntry {H : Type} : Lit × DataW H → Nat
  | (.string bytes, d) => bytes.length + uptoBulk d + 1
  | (_, d) => uptoBulk d + 1
 end
def uptoSmall : (H : Type) → List (DataW H) → Bool := fun _ ds => decide (uptoBulkAll ds ≤ 1048576)
def OpenSpec.upto (s : _root_.Go.ChangeSpec) : _root_.Go.OpenSpec := { _root_.Go.OpenSpec.ofChange s with cond := some uptoSmall }

/-- 'domesdaylaw07.PermMay', WHERE WHAT IT READS IS OF BULK AT MOST 1048576: true; the input reads as it did. -/
def permMayUptoRow : OpenClaim := { program := "ytgnlbmpejkdoiaadoor", sum := "0483b2c878327f9d86e32415d48893427d6613daec5cb27bae33166211557e18", func := "domesday/domesdaylaw07.PermMay", spec := "permMay", inPlace := ["internal/abi.NoEscape"], named := ["domesday/perm.classes"], apart := false, laid := [("domesday/perm.classes", laid_domesday_perm_classes)], narrowed := true }
def PermMayUptoSaid : Prop := permMayUptoRow.holds Tryd.pinned (OpenSpec.upto permMaySpec)

/-- 'domesdaylaw07.PermTexts', WHERE WHAT IT READS IS OF BULK AT MOST 1048576: true; the input reads as it did. -/
def permTextsUptoRow : OpenClaim := { program := "ytgnlbmpejkdoiaadoor", sum := "0483b2c878327f9d86e32415d48893427d6613daec5cb27bae33166211557e18", func := "domesday/domesdaylaw07.PermTexts", spec := "permTexts", inPlace := ["internal/abi.NoEscape"], named := ["domesday/perm.classes"], apart := false, laid := [("domesday/perm.classes", laid_domesday_perm_classes)], narrowed := true }
def PermTextsUptoSaid : Prop := permTextsUptoRow.holds Tryd.pinned (OpenSpec.upto permTextsSpec)

/-- 'domesdaylaw07.PermEach', WHERE WHAT IT READS IS OF BULK AT MOST 1048576: true; the input reads as it did. -/
def permEachUptoRow : OpenClaim := { program := "ytgnlbmpejkdoiaadoor", sum := "0483b2c878327f9d86e32415d48893427d6613daec5cb27bae33166211557e18", func := "domesday/domesdaylaw07.PermEach", spec := "permEach", inPlace := ["internal/abi.NoEscape"], named := ["domesday/perm.classes"], apart := false, laid := [("domesday/perm.classes", laid_domesday_perm_classes)], narrowed := true }
def PermEachUptoSaid : Prop := permEachUptoRow.holds Tryd.pinned (OpenSpec.upto permEachSpec)

end Rows
end Go.Proofs.YtgnlbmpejkdoiaaDoor
