/-
  No cell of these rows narrows 'for every input' (looked for: loops, veiled, ifaces, maps, wideKeys, modest, calm, conditions, laid).
  DERIVED. THE GIVEN ROWS OF THIS SEAT. 4 by the template 'for every input the law returns true; each argument reads behind the call as it read before'; 0 by the template 'total and deterministic' (their statements: YtboolblccahadaaTotals.lean).
  GIVEN WITH THE SEED: the statements are not yours to turn. If you find one false, say at which input.
  Laid BY PROGRAM, IN A SANDBOX (cutbox-rows.mjs): the forced cells as the released guide's own fill.sh prints them over the translation cd6178cf0b1f7221… (all of the seat's roots in one cut). By AI agents, Wed Nov 11 2026. No macro, syntax, notation, axiom, sorry.
-/
import Derived.Test.YtboolblccahadaaChecked
import GoSem.Claim
import GoSem.ClaimJoined
import GoSem.ClaimMapViews
import Derived.JoinedTies
import Derived.KernelRfl
namespace Go.Proofs.Ytboolblccahadaa
/- THE CELL 'sum', in the pinned program and in every row, IS THE sha256 OF THE DUMP (.gsa) THAT YtboolblccahadaaProg.lean LOADS. Nothing in Lean hashes anything: it is a label: what it is worth is what the hold of that sum in a sandbox is worth. -/
noncomputable def Try.pinned : Pinned := { name := "ytboolblccahadaa", sum := "cd6178cf0b1f722108140fffb46736a9422c42f4662eb22c041587e8ad624d16", checked := Try.checked }
namespace Rows
def none {H : Type} : Left H := { results := [], args := [] }

/-- 'domesdaylaw13.OptsPlain': WHATEVER THE INPUT: true; the input reads as it did. -/
def optsPlainSpec : ChangeSpec := { name := "optsPlain", fn := fun _ => fun
  | [d1, d2] => { results := [.lit (.bool true)], args := [d1, d2] }
  | _ => none }
def optsPlainRow : OpenClaim := { program := "ytboolblccahadaa", sum := "cd6178cf0b1f722108140fffb46736a9422c42f4662eb22c041587e8ad624d16", func := "domesday/domesdaylaw13.OptsPlain", spec := "optsPlain", inPlace := ["internal/bytealg.IndexByteString", "internal/bytealg.IndexString"], unfollowed := true, recurses := true, named := ["internal/bytealg.MaxLen"], apart := false }
def OptsPlainSaid : Prop := optsPlainRow.holds Try.pinned (OpenSpec.ofChange optsPlainSpec)

/-- ITS FALSE NEIGHBOUR: 'it returns false'. Refute it at one input. -/
def optsPlainWrong : ChangeSpec := { name := "optsPlain", fn := fun _ => fun
  | [d1, d2] => { results := [.lit (.bool false)], args := [d1, d2] }
  | _ => none }
def OptsPlainWrongFalsely : Prop := optsPlainRow.holds Try.pinned (OpenSpec.ofChange optsPlainWrong)

/-- 'domesdaylaw13.OptsReads': WHATEVER THE INPUT: true; the input reads as it did. -/
def optsReadsSpec : ChangeSpec := { name := "optsReads", fn := fun _ => fun
  | [d1, d2] => { results := [.lit (.bool true)], args := [d1, d2] }
  | _ => none }
def optsReadsRow : OpenClaim := { program := "ytboolblccahadaa", sum := "cd6178cf0b1f722108140fffb46736a9422c42f4662eb22c041587e8ad624d16", func := "domesday/domesdaylaw13.OptsReads", spec := "optsReads", inPlace := ["internal/bytealg.IndexByteString", "internal/bytealg.IndexString"], unfollowed := true, recurses := true, named := ["internal/bytealg.MaxLen"], apart := false }
def OptsReadsSaid : Prop := optsReadsRow.holds Try.pinned (OpenSpec.ofChange optsReadsSpec)

/-- ITS FALSE NEIGHBOUR: 'it returns false'. Refute it at one input. -/
def optsReadsWrong : ChangeSpec := { name := "optsReads", fn := fun _ => fun
  | [d1, d2] => { results := [.lit (.bool false)], args := [d1, d2] }
  | _ => none }
def OptsReadsWrongFalsely : Prop := optsReadsRow.holds Try.pinned (OpenSpec.ofChange optsReadsWrong)

/-- 'domesdaylaw13.OptsLast': WHATEVER THE INPUT: true; the input reads as it did. -/
def optsLastSpec : ChangeSpec := { name := "optsLast", fn := fun _ => fun
  | [d1, d2] => { results := [.lit (.bool true)], args := [d1, d2] }
  | _ => none }
def optsLastRow : OpenClaim := { program := "ytboolblccahadaa", sum := "cd6178cf0b1f722108140fffb46736a9422c42f4662eb22c041587e8ad624d16", func := "domesday/domesdaylaw13.OptsLast", spec := "optsLast", inPlace := ["internal/bytealg.IndexByteString", "internal/bytealg.IndexString"], unfollowed := true, recurses := true, named := ["internal/bytealg.MaxLen"], apart := false }
def OptsLastSaid : Prop := optsLastRow.holds Try.pinned (OpenSpec.ofChange optsLastSpec)

/-- ITS FALSE NEIGHBOUR: 'it returns false'. Refute it at one input. -/
def optsLastWrong : ChangeSpec := { name := "optsLast", fn := fun _ => fun
  | [d1, d2] => { results := [.lit (.bool false)], args := [d1, d2] }
  | _ => none }
def OptsLastWrongFalsely : Prop := optsLastRow.holds Try.pinned (OpenSpec.ofChange optsLastWrong)

/-- 'domesdaylaw13.OptsBits': WHATEVER THE INPUT: true; the input reads as it did. -/
def optsBitsSpec : ChangeSpec := { name := "optsBits", fn := fun _ => fun
  | [d1, d2, d3] => { results := [.lit (.bool true)], args := [d1, d2, d3] }
  | _ => none }
def optsBitsRow : OpenClaim := { program := "ytboolblccahadaa", sum := "cd6178cf0b1f722108140fffb46736a9422c42f4662eb22c041587e8ad624d16", func := "domesday/domesdaylaw13.OptsBits", spec := "optsBits", inPlace := ["internal/bytealg.IndexByteString", "internal/bytealg.IndexString"], unfollowed := true, recurses := true, named := ["internal/bytealg.MaxLen"], apart := false }
def OptsBitsSaid : Prop := optsBitsRow.holds Try.pinned (OpenSpec.ofChange optsBitsSpec)

/-- ITS FALSE NEIGHBOUR: 'it returns false'. Refute it at one input. -/
def optsBitsWrong : ChangeSpec := { name := "optsBits", fn := fun _ => fun
  | [d1, d2, d3] => { results := [.lit (.bool false)], args := [d1, d2, d3] }
  | _ => none }
def OptsBitsWrongFalsely : Prop := optsBitsRow.holds Try.pinned (OpenSpec.ofChange optsBitsWrong)

/- THE SECOND FORM. 'bulk': how many values and letters a reading holds, each counted each time it is reached (what is shared counts as often as it is met; a slice's spare places count too). A statement '..UptoSaid' is the law's where the arguments, and the package variables that the reading takes, are together of bulk at most 1048576: NARROWER than '..Said'. Prove '..Said' where nothing that the law and all that it calls make is longer than what came in: it says more and counts as full. Else prove '..UptoSaid'. A law counts once. -/
mutual
def uptoBulk {H : Type} : DataW H → Nat
  | .lit (.string bytes) => bytes.length + 1
  | .lit _ => 1
  | .nil => 1
  | .ptr d => uptoBulk d + 1
  | .slice elems spare => uptoBulkAll elems + uptoBulkAll spare + 1
  | .agg parts => uptoBulkAll parts + 1
  | .iface _ d => uptoBulk d + 1
  | .map entries => uptoBulkEntries entries + 1
  | .held _ => 1
def uptoBulkAll {H : Type} : List (DataW H) → Nat
  | [] => 0
  | d :: r => uptoBulk d + uptoBulkAll r
def uptoBulkEntries {H : Type} : List (Lit × DataW H) → Nat
  | [] => 0
  | x :: r => uptoBulkEntry x + uptoBulkEntries r
def uptoBulkEntry {H : Type} : Lit × DataW H → Nat
  | (.string bytes, d) => bytes.length + uptoBulk d + 1
  | (_, d) => uptoBulk d + 1
 end
def uptoSmall : (H : Type) → List (DataW H) → Bool := fun _ ds => decide (uptoBulkAll ds ≤ 1048576)
def OpenSpec.upto (s : _root_.Go.ChangeSpec) : _root_.Go.OpenSpec := { _root_.Go.OpenSpec.ofChange s with cond := some uptoSmall }

/-- 'domesdaylaw13.OptsPlain', WHERE WHAT IT READS IS OF BULK AT MOST 1048576: true; the input reads as it did. -/
def optsPlainUptoRow : OpenClaim := { program := "ytboolblccahadaa", sum := "cd6178cf0b1f722108140fffb46736a9422c42f4662eb22c041587e8ad624d16", func := "domesday/domesdaylaw13.OptsPlain", spec := "optsPlain", inPlace := ["internal/bytealg.IndexByteString", "internal/bytealg.IndexString"], unfollowed := true, recurses := true, named := ["internal/bytealg.MaxLen"], apart := false, narrowed := true }
def OptsPlainUptoSaid : Prop := optsPlainUptoRow.holds Try.pinned (OpenSpec.upto optsPlainSpec)

/-- 'domesdaylaw13.OptsReads', WHERE WHAT IT READS IS OF BULK AT MOST 1048576: true; the input reads as it did. -/
def optsReadsUptoRow : OpenClaim := { program := "ytboolblccahadaa", sum := "cd6178cf0b1f722108140fffb46736a9422c42f4662eb22c041587e8ad624d16", func := "domesday/domesdaylaw13.OptsReads", spec := "optsReads", inPlace := ["internal/bytealg.IndexByteString", "internal/bytealg.IndexString"], unfollowed := true, recurses := true, named := ["internal/bytealg.MaxLen"], apart := false, narrowed := true }
def OptsReadsUptoSaid : Prop := optsReadsUptoRow.holds Try.pinned (OpenSpec.upto optsReadsSpec)

/-- 'domesdaylaw13.OptsLast', WHERE WHAT IT READS IS OF BULK AT MOST 1048576: true; the input reads as it did. -/
def optsLastUptoRow : OpenClaim := { program := "ytboolblccahadaa", sum := "cd6178cf0b1f722108140fffb46736a9422c42f4662eb22c041587e8ad624d16", func := "domesday/domesdaylaw13.OptsLast", spec := "optsLast", inPlace := ["internal/bytealg.IndexByteString", "internal/bytealg.IndexString"], unfollowed := true, recurses := true, named := ["internal/bytealg.MaxLen"], apart := false, narrowed := true }
def OptsLastUptoSaid : Prop := optsLastUptoRow.holds Try.pinned (OpenSpec.upto optsLastSpec)

/-- 'domesdaylaw13.OptsBits', WHERE WHAT IT READS IS OF BULK AT MOST 1048576: true; the input reads as it did. -/
def optsBitsUptoRow : OpenClaim := { program := "ytboolblccahadaa", sum := "cd6178cf0b1f722108140fffb46736a9422c42f4662eb22c041587e8ad624d16", func := "domesday/domesdaylaw13.OptsBits", spec := "optsBits", inPlace := ["internal/bytealg.IndexByteString", "internal/bytealg.IndexString"], unfollowed := true, recurses := true, named := ["internal/bytealg.MaxLen"], apart := false, narrowed := true }
def OptsBitsUptoSaid : Prop := optsBitsUptoRow.holds Try.pinned (OpenSpec.upto optsBitsSpec)

end Rows
end Go.Proofs.Ytboolblccahadaa
