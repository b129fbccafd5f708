/-
  NARROWER THAN 'FOR EVERY INPUT', by the rows' own cells (each row's printed sentence says how): RealFixed: laid.
  DERIVED. THE GIVEN ROWS OF THIS SEAT. 1 by the template 'for every input the law returns true; each argument reads behind the call as it read before'; 0 by the template 'total and deterministic' (their statements: YtjdcoaiklpkedaaDoorTotals.lean).
  GIVEN WITH THE SEED: the statements are not yours to turn. If you find one false, say at which input.
  Laid BY PROGRAM, IN A SANDBOX (cutbox-rows.mjs): the forced cells as the released guide's own fill.sh prints them over the translation 47bb60cf48df443e… (all of the seat's roots in one cut). By AI agents, Wed Nov 11 2026. No macro, syntax, notation, axiom, sorry.
-/
import Derived.Test.YtjdcoaiklpkedaaDoorChecked
import GoSem.Claim
import GoSem.ClaimJoined
import GoSem.ClaimMapViews
import Derived.JoinedTies
import Derived.KernelRfl
namespace Go.Proofs.YtjdcoaiklpkedaaDoor
/- THE CELL 'sum', in the pinned program and in every row, IS THE sha256 OF THE DUMP (.gsa) THAT YtjdcoaiklpkedaaDoorProg.lean LOADS. Nothing in Lean hashes anything: it is a label: what it is worth is what the hold of that sum in a sandbox is worth. -/
noncomputable def Tryd.pinned : Pinned := { name := "ytjdcoaiklpkedaadoor", sum := "47bb60cf48df443ee738a4d6d90122a7b2a75e31156cd8e4088542f2f1bf98af", checked := Tryd.checked }
namespace Rows
def none {H : Type} : Left H := { results := [], args := [] }

/- WHAT THE LISTED PACKAGE-LEVEL VARIABLES READ AS WHEN THE CALL BEGINS. Each datum BY PROGRAM (the guide's laid-datum.mjs) off the statement by which the dump's own 'gosem.cut.vars' lays the variable. In a bare row this is a premise. The card (YtjdcoaiklpkedaaDoorCards.lean) ties it to the program's text. -/
def laid_domesday_perm_classes {H : Type} : DataW H := .agg [.agg [.lit (.int .i64 6), .lit (.int .i64 11), .lit (.string [115]), .lit (.string [83])], .agg [.lit (.int .i64 3), .lit (.int .i64 10), .lit (.string [115]), .lit (.string [83])], .agg [.lit (.int .i64 0), .lit (.int .i64 9), .lit (.string [116]), .lit (.string [84])]]

/-- 'domesdaylaw09.RealFixed': WHATEVER THE INPUT: true; the input reads as it did. -/
def realFixedSpec : ChangeSpec := { name := "realFixed", fn := fun _ => fun
  | [d] => { results := [.lit (.bool true)], args := [d] }
  | _ => none }
def realFixedRow : OpenClaim := { program := "ytjdcoaiklpkedaadoor", sum := "47bb60cf48df443ee738a4d6d90122a7b2a75e31156cd8e4088542f2f1bf98af", func := "domesday/domesdaylaw09.RealFixed", spec := "realFixed", inPlace := ["internal/abi.NoEscape", "internal/bytealg.MakeNoZero", "internal/bytealg.IndexByteString", "internal/bytealg.IndexString"], unfollowed := true, recurses := true, named := ["domesday/perm.classes", "internal/bytealg.MaxLen"], apart := false, laid := [("domesday/perm.classes", laid_domesday_perm_classes)] }
def RealFixedSaid : Prop := realFixedRow.holds Tryd.pinned (OpenSpec.ofChange realFixedSpec)

/-- ITS FALSE NEIGHBOUR: 'it returns false'. Refute it at one input. -/
def realFixedWrong : ChangeSpec := { name := "realFixed", fn := fun _ => fun
  | [d] => { results := [.lit (.bool false)], args := [d] }
  | _ => none }
def RealFixedWrongFalsely : Prop := realFixedRow.holds Tryd.pinned (OpenSpec.ofChange realFixedWrong)

/- THE SECOND FORM. 'bulk': how many values and letters a reading holds, each counted each time it is reached (what is shared counts as often as it is met; a slice's spare places count too). A statement '..UptoSaid' is the law's where the arguments, and the package variables that the reading takes, are together of bulk at most 1048576: NARROWER than '..Said'. Prove '..Said' where nothing that the law and all that it calls make is longer than what came in: it says more and counts as full. Else prove '..UptoSaid'. A law counts once. -/
mutual
def uptoBulk {H : Type} : DataW H → Nat
  | .lit (.string bytes) => bytes.length + 1
  | .lit _ => 1
  | .nil => 1
  | .ptr d => uptoBulk d + 1
  | .slice elems spare => uptoBulkAll elems + uptoBulkAll spare + 1
  | .agg parts => uptoBulkAll parts + 1
  | .iface _ d => uptoBulk d + 1
  | .map entries => uptoBulkEntries entries + 1
  | .held _ => 1
def uptoBulkAll {H : Type} : List (DataW H) → Nat
  | [] => 0
  | d :: r => uptoBulk d + uptoBulkAll r
def uptoBulkEntries {H : Type} : List (Lit × DataW H) → Nat
  | [] => 0
  | x :: r => uptoBulkEntry x + uptoBulkEntries r
def uptoBulkEntry {H : Type} : Lit × DataW H → Nat
  | (.string bytes, d) => bytes.length + uptoBulk d + 1
  | (_, d) => uptoBulk d + 1
 end
def uptoSmall : (H : Type) → List (DataW H) → Bool := fun _ ds => decide (uptoBulkAll ds ≤ 1048576)
def OpenSpec.upto (s : _root_.Go.ChangeSpec) : _root_.Go.OpenSpec := { _root_.Go.OpenSpec.ofChange s with cond := some uptoSmall }

/-- 'domesdaylaw09.RealFixed', WHERE WHAT IT READS IS OF BULK AT MOST 1048576: true; the input reads as it did. -/
def realFixedUptoRow : OpenClaim := { program := "ytjdcoaiklpkedaadoor", sum := "47bb60cf48df443ee738a4d6d90122a7b2a75e31156cd8e4088542f2f1bf98af", func := "domesday/domesdaylaw09.RealFixed", spec := "realFixed", inPlace := ["internal/abi.NoEscape", "internal/bytealg.MakeNoZero", "internal/bytealg.IndexByteString", "internal/bytealg.IndexString"], unfollowed := true, recurses := true, named := ["domesday/perm.classes", "internal/bytealg.MaxLen"], apart := false, laid := [("domesday/perm.classes", laid_domesday_perm_classes)], narrowed := true }
def RealFixedUptoSaid : Prop := realFixedUptoRow.holds Tryd.pinned (OpenSpec.upto realFixedSpec)

end Rows
end Go.Proofs.YtjdcoaiklpkedaaDoor
