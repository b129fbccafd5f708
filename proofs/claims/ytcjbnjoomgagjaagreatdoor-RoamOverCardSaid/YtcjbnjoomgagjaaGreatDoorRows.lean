/-
  NARROWER THAN 'FOR EVERY INPUT', by the rows' own cells (each row's printed sentence says how): RoamDepth: laid · RoamShows: laid · RoamWalks: laid · RoamOver: laid.
  DERIVED. THE GIVEN ROWS OF THIS SEAT. 4 by the template 'for every input the law returns true; each argument reads behind the call as it read before'; 0 by the template 'total and deterministic' (their statements: YtcjbnjoomgagjaaGreatDoorTotals.lean).
  GIVEN WITH THE SEED: the statements are not yours to turn. If you find one false, say at which input.
  Laid BY PROGRAM, IN A SANDBOX (cutbox-rows.mjs): the forced cells as the released guide's own fill.sh prints them over the translation 42c015151b0bef0a… (all of the seat's roots in one cut). By AI agents, Wed Nov 11 2026. No macro, syntax, notation, axiom, sorry.
-/
import Derived.Test.YtcjbnjoomgagjaaGreatDoorChecked
import GoSem.PinnedTables
import GoSem.Claim
import GoSem.ClaimJoined
import GoSem.ClaimMapViews
import Derived.JoinedTies
import Derived.KernelRfl
namespace Go.Proofs.YtcjbnjoomgagjaaGreatDoor
/- THE CELL 'sum', in the pinned program and in every row, IS THE sha256 OF THE DUMP (.gsa) THAT YtcjbnjoomgagjaaGreatDoorProg.lean LOADS. Nothing in Lean hashes anything: it is a label: what it is worth is what the hold of that sum in a sandbox is worth. -/
noncomputable def Tryz.pinned : Pinned := { name := "ytcjbnjoomgagjaagreatdoor", sum := "42c015151b0bef0abe9cb4d15ca8153099dff5fc0124b8003e577d20bb893ad3", checked := Tryz.checked }
namespace Rows
def none {H : Type} : Left H := { results := [], args := [] }

/- WHAT THE LISTED PACKAGE-LEVEL VARIABLES READ AS WHEN THE CALL BEGINS. Each datum BY PROGRAM (the guide's laid-datum.mjs) off the statement by which the dump's own 'gosem.cut.vars' lays the variable. In a bare row this is a premise. The card (YtcjbnjoomgagjaaGreatDoorCards.lean) ties it to the program's text. -/
def laid_unicode_utf8_acceptRanges {H : Type} : DataW H := .agg [.agg [.lit (.int .u8 128), .lit (.int .u8 191)], .agg [.lit (.int .u8 160), .lit (.int .u8 191)], .agg [.lit (.int .u8 128), .lit (.int .u8 159)], .agg [.lit (.int .u8 144), .lit (.int .u8 191)], .agg [.lit (.int .u8 128), .lit (.int .u8 143)], .agg [.lit (.int .u8 0), .lit (.int .u8 0)], .agg [.lit (.int .u8 0), .lit (.int .u8 0)], .agg [.lit (.int .u8 0), .lit (.int .u8 0)], .agg [.lit (.int .u8 0), .lit (.int .u8 0)], .agg [.lit (.int .u8 0), .lit (.int .u8 0)], .agg [.lit (.int .u8 0), .lit (.int .u8 0)], .agg [.lit (.int .u8 0), .lit (.int .u8 0)], .agg [.lit (.int .u8 0), .lit (.int .u8 0)], .agg [.lit (.int .u8 0), .lit (.int .u8 0)], .agg [.lit (.int .u8 0), .lit (.int .u8 0)], .agg [.lit (.int .u8 0), .lit (.int .u8 0)]]
def laid_domesday_perm_classes {H : Type} : DataW H := .agg [.agg [.lit (.int .i64 6), .lit (.int .i64 11), .lit (.string [115]), .lit (.string [83])], .agg [.lit (.int .i64 3), .lit (.int .i64 10), .lit (.string [115]), .lit (.string [83])], .agg [.lit (.int .i64 0), .lit (.int .i64 9), .lit (.string [116]), .lit (.string [84])]]
/-- One of Go's own tables, pinned by name: the form's constant. -/
def laid_unicode_utf8_first : DataW Unit := Go.Pinned.utf8First

/-- 'domesdaylaw12.RoamDepth': WHATEVER THE INPUT: true; the input reads as it did. -/
def roamDepthSpec : ChangeSpec := { name := "roamDepth", fn := fun _ => fun
  | [d1, d2] => { results := [.lit (.bool true)], args := [d1, d2] }
  | _ => none }
def roamDepthRow : OpenClaim := { program := "ytcjbnjoomgagjaagreatdoor", sum := "42c015151b0bef0abe9cb4d15ca8153099dff5fc0124b8003e577d20bb893ad3", func := "domesday/domesdaylaw12.RoamDepth", spec := "roamDepth", inPlace := ["internal/bytealg.abigen_runtime_cmpstring", "internal/bytealg.IndexByteString", "internal/bytealg.IndexString"], unfollowed := true, recurses := true, named := ["domesday/perm.classes", "unicode/utf8.first", "unicode/utf8.acceptRanges", "internal/bytealg.MaxLen"], apart := false, laid := [("unicode/utf8.acceptRanges", laid_unicode_utf8_acceptRanges), ("domesday/perm.classes", laid_domesday_perm_classes), ("unicode/utf8.first", laid_unicode_utf8_first)] }
def RoamDepthSaid : Prop := roamDepthRow.holds Tryz.pinned (OpenSpec.ofChange roamDepthSpec)

/-- ITS FALSE NEIGHBOUR: 'it returns false'. Refute it at one input. -/
def roamDepthWrong : ChangeSpec := { name := "roamDepth", fn := fun _ => fun
  | [d1, d2] => { results := [.lit (.bool false)], args := [d1, d2] }
  | _ => none }
def RoamDepthWrongFalsely : Prop := roamDepthRow.holds Tryz.pinned (OpenSpec.ofChange roamDepthWrong)

/-- 'domesdaylaw12.RoamShows': WHATEVER THE INPUT: true; the input reads as it did. -/
def roamShowsSpec : ChangeSpec := { name := "roamShows", fn := fun _ => fun
  | [d] => { results := [.lit (.bool true)], args := [d] }
  | _ => none }
def roamShowsRow : OpenClaim := { program := "ytcjbnjoomgagjaagreatdoor", sum := "42c015151b0bef0abe9cb4d15ca8153099dff5fc0124b8003e577d20bb893ad3", func := "domesday/domesdaylaw12.RoamShows", spec := "roamShows", inPlace := ["internal/bytealg.abigen_runtime_cmpstring", "internal/bytealg.IndexByteString", "internal/bytealg.IndexString"], unfollowed := true, recurses := true, named := ["domesday/perm.classes", "unicode/utf8.first", "unicode/utf8.acceptRanges", "internal/bytealg.MaxLen"], apart := false, laid := [("unicode/utf8.acceptRanges", laid_unicode_utf8_acceptRanges), ("domesday/perm.classes", laid_domesday_perm_classes), ("unicode/utf8.first", laid_unicode_utf8_first)] }
def RoamShowsSaid : Prop := roamShowsRow.holds Tryz.pinned (OpenSpec.ofChange roamShowsSpec)

/-- ITS FALSE NEIGHBOUR: 'it returns false'. Refute it at one input. -/
def roamShowsWrong : ChangeSpec := { name := "roamShows", fn := fun _ => fun
  | [d] => { results := [.lit (.bool false)], args := [d] }
  | _ => none }
def RoamShowsWrongFalsely : Prop := roamShowsRow.holds Tryz.pinned (OpenSpec.ofChange roamShowsWrong)

/-- 'domesdaylaw12.RoamWalks': WHATEVER THE INPUT: true; the input reads as it did. -/
def roamWalksSpec : ChangeSpec := { name := "roamWalks", fn := fun _ => fun
  | [d] => { results := [.lit (.bool true)], args := [d] }
  | _ => none }
def roamWalksRow : OpenClaim := { program := "ytcjbnjoomgagjaagreatdoor", sum := "42c015151b0bef0abe9cb4d15ca8153099dff5fc0124b8003e577d20bb893ad3", func := "domesday/domesdaylaw12.RoamWalks", spec := "roamWalks", inPlace := ["internal/bytealg.abigen_runtime_cmpstring", "internal/bytealg.IndexByteString", "internal/bytealg.IndexString"], unfollowed := true, recurses := true, named := ["domesday/perm.classes", "unicode/utf8.first", "unicode/utf8.acceptRanges", "internal/bytealg.MaxLen"], apart := false, laid := [("unicode/utf8.acceptRanges", laid_unicode_utf8_acceptRanges), ("domesday/perm.classes", laid_domesday_perm_classes), ("unicode/utf8.first", laid_unicode_utf8_first)] }
def RoamWalksSaid : Prop := roamWalksRow.holds Tryz.pinned (OpenSpec.ofChange roamWalksSpec)

/-- ITS FALSE NEIGHBOUR: 'it returns false'. Refute it at one input. -/
def roamWalksWrong : ChangeSpec := { name := "roamWalks", fn := fun _ => fun
  | [d] => { results := [.lit (.bool false)], args := [d] }
  | _ => none }
def RoamWalksWrongFalsely : Prop := roamWalksRow.holds Tryz.pinned (OpenSpec.ofChange roamWalksWrong)

/-- 'domesdaylaw12.RoamOver': WHATEVER THE INPUT: true; the input reads as it did. -/
def roamOverSpec : ChangeSpec := { name := "roamOver", fn := fun _ => fun
  | [d] => { results := [.lit (.bool true)], args := [d] }
  | _ => none }
def roamOverRow : OpenClaim := { program := "ytcjbnjoomgagjaagreatdoor", sum := "42c015151b0bef0abe9cb4d15ca8153099dff5fc0124b8003e577d20bb893ad3", func := "domesday/domesdaylaw12.RoamOver", spec := "roamOver", inPlace := ["internal/bytealg.abigen_runtime_cmpstring", "internal/bytealg.IndexByteString", "internal/bytealg.IndexString"], unfollowed := true, recurses := true, named := ["domesday/perm.classes", "unicode/utf8.first", "unicode/utf8.acceptRanges", "internal/bytealg.MaxLen"], apart := false, laid := [("unicode/utf8.acceptRanges", laid_unicode_utf8_acceptRanges), ("domesday/perm.classes", laid_domesday_perm_classes), ("unicode/utf8.first", laid_unicode_utf8_first)] }
def RoamOverSaid : Prop := roamOverRow.holds Tryz.pinned (OpenSpec.ofChange roamOverSpec)

/-- ITS FALSE NEIGHBOUR: 'it returns false'. Refute it at one input. -/
def roamOverWrong : ChangeSpec := { name := "roamOver", fn := fun _ => fun
  | [d] => { results := [.lit (.bool false)], args := [d] }
  | _ => none }
def RoamOverWrongFalsely : Prop := roamOverRow.holds Tryz.pinned (OpenSpec.ofChange roamOverWrong)

/- THE SECOND FORM. 'bulk': how many values and letters a reading holds, each counted each time it is reached (what is shared counts as often as it is met; a slice's spare places count too). A statement '..UptoSaid' is the law's where the arguments, and the package variables that the reading takes, are together of bulk at most 1048576: NARROWER than '..Said'. Prove '..Said' where nothing that the law and all that it calls make is longer than what came in: it says more and counts as full. Else prove '..UptoSaid'. A law counts once. -/
mutual
def uptoBulk {H : Type} : DataW H → Nat
  | .lit (.string bytes) => bytes.length + 1
  | .lit _ => 1
  | .nil => 1
  | .ptr d => uptoBulk d + 1
  | .slice elems spare => uptoBulkAll elems + uptoBulkAll spare + 1
  | .agg parts => uptoBulkAll parts + 1
  | .iface _ d => uptoBulk d + 1
  | .map entries => uptoBulkEntries entries + 1
  | .held _ => 1
def uptoBulkAll {H : Type} : List (DataW H) → Nat
  | [] => 0
  | d :: r => uptoBulk d + uptoBulkAll r
def uptoBulkEntries {H : Type} : List (Lit × DataW H) → Nat
  | [] => 0
  | x :: r => uptoBulkEntry x + uptoBulkEntries r
def uptoBulkEntry {H : Type} : Lit × DataW H → Nat
  | (.string bytes, d) => bytes.length + uptoBulk d + 1
  | (_, d) => uptoBulk d + 1
 end
def uptoSmall : (H : Type) → List (DataW H) → Bool := fun _ ds => decide (uptoBulkAll ds ≤ 1048576)
def OpenSpec.upto (s : _root_.Go.ChangeSpec) : _root_.Go.OpenSpec := { _root_.Go.OpenSpec.ofChange s with cond := some uptoSmall }

/-- 'domesdaylaw12.RoamDepth', WHERE WHAT IT READS IS OF BULK AT MOST 1048576: true; the input reads as it did. -/
def roamDepthUptoRow : OpenClaim := { program := "ytcjbnjoomgagjaagreatdoor", sum := "42c015151b0bef0abe9cb4d15ca8153099dff5fc0124b8003e577d20bb893ad3", func := "domesday/domesdaylaw12.RoamDepth", spec := "roamDepth", inPlace := ["internal/bytealg.abigen_runtime_cmpstring", "internal/bytealg.IndexByteString", "internal/bytealg.IndexString"], unfollowed := true, recurses := true, named := ["domesday/perm.classes", "unicode/utf8.first", "unicode/utf8.acceptRanges", "internal/bytealg.MaxLen"], apart := false, laid := [("unicode/utf8.acceptRanges", laid_unicode_utf8_acceptRanges), ("domesday/perm.classes", laid_domesday_perm_classes), ("unicode/utf8.first", laid_unicode_utf8_first)], narrowed := true }
def RoamDepthUptoSaid : Prop := roamDepthUptoRow.holds Tryz.pinned (OpenSpec.upto roamDepthSpec)

/-- 'domesdaylaw12.RoamShows', WHERE WHAT IT READS IS OF BULK AT MOST 1048576: true; the input reads as it did. -/
def roamShowsUptoRow : OpenClaim := { program := "ytcjbnjoomgagjaagreatdoor", sum := "42c015151b0bef0abe9cb4d15ca8153099dff5fc0124b8003e577d20bb893ad3", func := "domesday/domesdaylaw12.RoamShows", spec := "roamShows", inPlace := ["internal/bytealg.abigen_runtime_cmpstring", "internal/bytealg.IndexByteString", "internal/bytealg.IndexString"], unfollowed := true, recurses := true, named := ["domesday/perm.classes", "unicode/utf8.first", "unicode/utf8.acceptRanges", "internal/bytealg.MaxLen"], apart := false, laid := [("unicode/utf8.acceptRanges", laid_unicode_utf8_acceptRanges), ("domesday/perm.classes", laid_domesday_perm_classes), ("unicode/utf8.first", laid_unicode_utf8_first)], narrowed := true }
def RoamShowsUptoSaid : Prop := roamShowsUptoRow.holds Tryz.pinned (OpenSpec.upto roamShowsSpec)

/-- 'domesdaylaw12.RoamWalks', WHERE WHAT IT READS IS OF BULK AT MOST 1048576: true; the input reads as it did. -/
def roamWalksUptoRow : OpenClaim := { program := "ytcjbnjoomgagjaagreatdoor", sum := "42c015151b0bef0abe9cb4d15ca8153099dff5fc0124b8003e577d20bb893ad3", func := "domesday/domesdaylaw12.RoamWalks", spec := "roamWalks", inPlace := ["internal/bytealg.abigen_runtime_cmpstring", "internal/bytealg.IndexByteString", "internal/bytealg.IndexString"], unfollowed := true, recurses := true, named := ["domesday/perm.classes", "unicode/utf8.first", "unicode/utf8.acceptRanges", "internal/bytealg.MaxLen"], apart := false, laid := [("unicode/utf8.acceptRanges", laid_unicode_utf8_acceptRanges), ("domesday/perm.classes", laid_domesday_perm_classes), ("unicode/utf8.first", laid_unicode_utf8_first)], narrowed := true }
def RoamWalksUptoSaid : Prop := roamWalksUptoRow.holds Tryz.pinned (OpenSpec.upto roamWalksSpec)

/-- 'domesdaylaw12.RoamOver', WHERE WHAT IT READS IS OF BULK AT MOST 1048576: true; the input reads as it did. -/
def roamOverUptoRow : OpenClaim := { program := "ytcjbnjoomgagjaagreatdoor", sum := "42c015151b0bef0abe9cb4d15ca8153099dff5fc0124b8003e577d20bb893ad3", func := "domesday/domesdaylaw12.RoamOver", spec := "roamOver", inPlace := ["internal/bytealg.abigen_runtime_cmpstring", "internal/bytealg.IndexByteString", "internal/bytealg.IndexString"], unfollowed := true, recurses := true, named := ["domesday/perm.classes", "unicode/utf8.first", "unicode/utf8.acceptRanges", "internal/bytealg.MaxLen"], apart := false, laid := [("unicode/utf8.acceptRanges", laid_unicode_utf8_acceptRanges), ("domesday/perm.classes", laid_domesday_perm_classes), ("unicode/utf8.first", laid_unicode_utf8_first)], narrowed := true }
def RoamOverUptoSaid : Prop := roamOverUptoRow.holds Tryz.pinned (OpenSpec.upto roamOverSpec)

end Rows
end Go.Proofs.YtcjbnjoomgagjaaGreatDoor
