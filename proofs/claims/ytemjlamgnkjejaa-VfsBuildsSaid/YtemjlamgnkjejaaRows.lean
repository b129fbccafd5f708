/-
  No cell of these rows narrows 'for every input' (looked for: loops, veiled, ifaces, maps, wideKeys, modest, calm, conditions, laid).
  DERIVED. THE GIVEN ROWS OF THIS SEAT. 4 by the template 'for every input the law returns true; each argument reads behind the call as it read before'; 0 by the template 'total and deterministic' (their statements: YtemjlamgnkjejaaTotals.lean).
  GIVEN WITH THE SEED: the statements are not yours to turn. If you find one false, say at which input.
  Laid BY PROGRAM, IN A SANDBOX (cutbox-rows.mjs): the forced cells as the released guide's own fill.sh prints them over the translation ea5eb5161e475042… (all of the seat's roots in one cut). By AI agents, Wed Nov 11 2026. No macro, syntax, notation, axiom, sorry.
-/
import Derived.Test.YtemjlamgnkjejaaChecked
import GoSem.Claim
import GoSem.ClaimJoined
import GoSem.ClaimMapViews
import Derived.JoinedTies
import Derived.KernelRfl
namespace Go.Proofs.Ytemjlamgnkjejaa
/- THE CELL 'sum', in the pinned program and in every row, IS THE sha256 OF THE DUMP (.gsa) THAT YtemjlamgnkjejaaProg.lean LOADS. Nothing in Lean hashes anything: it is a label: what it is worth is what the hold of that sum in a sandbox is worth. -/
noncomputable def Try.pinned : Pinned := { name := "ytemjlamgnkjejaa", sum := "ea5eb5161e475042926d2de608b5ccb2b00396f640e69ddfd4463ef59ac6aa58", checked := Try.checked }
namespace Rows
def none {H : Type} : Left H := { results := [], args := [] }

/-- 'domesdaylaw08.PathNames': WHATEVER THE INPUT: true; the input reads as it did. -/
def pathNamesSpec : ChangeSpec := { name := "pathNames", fn := fun _ => fun
  | [d] => { results := [.lit (.bool true)], args := [d] }
  | _ => none }
def pathNamesRow : OpenClaim := { program := "ytemjlamgnkjejaa", sum := "ea5eb5161e475042926d2de608b5ccb2b00396f640e69ddfd4463ef59ac6aa58", func := "domesday/domesdaylaw08.PathNames", spec := "pathNames", unfollowed := true, recurses := true, apart := false }
def PathNamesSaid : Prop := pathNamesRow.holds Try.pinned (OpenSpec.ofChange pathNamesSpec)

/-- ITS FALSE NEIGHBOUR: 'it returns false'. Refute it at one input. -/
def pathNamesWrong : ChangeSpec := { name := "pathNames", fn := fun _ => fun
  | [d] => { results := [.lit (.bool false)], args := [d] }
  | _ => none }
def PathNamesWrongFalsely : Prop := pathNamesRow.holds Try.pinned (OpenSpec.ofChange pathNamesWrong)

/-- 'domesdaylaw06.VfsBuilds': WHATEVER THE INPUT: true; the input reads as it did. -/
def vfsBuildsSpec : ChangeSpec := { name := "vfsBuilds", fn := fun _ => fun
  | [d] => { results := [.lit (.bool true)], args := [d] }
  | _ => none }
def vfsBuildsRow : OpenClaim := { program := "ytemjlamgnkjejaa", sum := "ea5eb5161e475042926d2de608b5ccb2b00396f640e69ddfd4463ef59ac6aa58", func := "domesday/domesdaylaw06.VfsBuilds", spec := "vfsBuilds", inPlace := ["internal/bytealg.IndexByteString", "internal/bytealg.IndexString"], named := ["internal/bytealg.MaxLen"], apart := false }
def VfsBuildsSaid : Prop := vfsBuildsRow.holds Try.pinned (OpenSpec.ofChange vfsBuildsSpec)

/-- ITS FALSE NEIGHBOUR: 'it returns false'. Refute it at one input. -/
def vfsBuildsWrong : ChangeSpec := { name := "vfsBuilds", fn := fun _ => fun
  | [d] => { results := [.lit (.bool false)], args := [d] }
  | _ => none }
def VfsBuildsWrongFalsely : Prop := vfsBuildsRow.holds Try.pinned (OpenSpec.ofChange vfsBuildsWrong)

/-- 'domesdaylaw06.VfsSame': WHATEVER THE INPUT: true; the input reads as it did. -/
def vfsSameSpec : ChangeSpec := { name := "vfsSame", fn := fun _ => fun
  | [d1, d2] => { results := [.lit (.bool true)], args := [d1, d2] }
  | _ => none }
def vfsSameRow : OpenClaim := { program := "ytemjlamgnkjejaa", sum := "ea5eb5161e475042926d2de608b5ccb2b00396f640e69ddfd4463ef59ac6aa58", func := "domesday/domesdaylaw06.VfsSame", spec := "vfsSame", inPlace := ["internal/bytealg.IndexByteString", "internal/bytealg.IndexString"], unfollowed := true, recurses := true, named := ["internal/bytealg.MaxLen"], apart := false }
def VfsSameSaid : Prop := vfsSameRow.holds Try.pinned (OpenSpec.ofChange vfsSameSpec)

/-- ITS FALSE NEIGHBOUR: 'it returns false'. Refute it at one input. -/
def vfsSameWrong : ChangeSpec := { name := "vfsSame", fn := fun _ => fun
  | [d1, d2] => { results := [.lit (.bool false)], args := [d1, d2] }
  | _ => none }
def VfsSameWrongFalsely : Prop := vfsSameRow.holds Try.pinned (OpenSpec.ofChange vfsSameWrong)

/-- 'domesdaylaw06.VfsDevices': WHATEVER THE INPUT: true; the input reads as it did. -/
def vfsDevicesSpec : ChangeSpec := { name := "vfsDevices", fn := fun _ => fun
  | [d] => { results := [.lit (.bool true)], args := [d] }
  | _ => none }
def vfsDevicesRow : OpenClaim := { program := "ytemjlamgnkjejaa", sum := "ea5eb5161e475042926d2de608b5ccb2b00396f640e69ddfd4463ef59ac6aa58", func := "domesday/domesdaylaw06.VfsDevices", spec := "vfsDevices", inPlace := ["internal/bytealg.IndexByteString", "internal/bytealg.IndexString"], named := ["internal/bytealg.MaxLen"], apart := false }
def VfsDevicesSaid : Prop := vfsDevicesRow.holds Try.pinned (OpenSpec.ofChange vfsDevicesSpec)

/-- ITS FALSE NEIGHBOUR: 'it returns false'. Refute it at one input. -/
def vfsDevicesWrong : ChangeSpec := { name := "vfsDevices", fn := fun _ => fun
  | [d] => { results := [.lit (.bool false)], args := [d] }
  | _ => none }
def VfsDevicesWrongFalsely : Prop := vfsDevicesRow.holds Try.pinned (OpenSpec.ofChange vfsDevicesWrong)

/- THE SECOND FORM. 'bulk': how many values and letters a reading holds, each counted each time it is reached (what is shared counts as often as it is met; a slice's spare places count too). A statement '..UptoSaid' is the law's where the arguments, and the package variables that the reading takes, are together of bulk at most 1048576: NARROWER than '..Said'. Prove '..Said' where nothing that the law and all that it calls make is longer than what came in: it says more and counts as full. Else prove '..UptoSaid'. A law counts once. -/
mutual
def uptoBulk {H : Type} : DataW H → Nat
  | .lit (.string bytes) => bytes.length + 1
  | .lit _ => 1
  | .nil => 1
  | .ptr d => uptoBulk d + 1
  | .slice elems spare => uptoBulkAll elems + uptoBulkAll spare + 1
  | .agg parts => uptoBulkAll parts + 1
  | .iface _ d => uptoBulk d + 1
  | .map entries => uptoBulkEntries entries + 1
  | .held _ => 1
def uptoBulkAll {H : Type} : List (DataW H) → Nat
  | [] => 0
  | d :: r => uptoBulk d + uptoBulkAll r
def uptoBulkEntries {H : Type} : List (Lit × DataW H) → Nat
  | [] => 0
  | x :: r => uptoBulkEntry x + uptoBulkEntries r
def uptoBulkEntry {H : Type} : Lit × DataW H → Nat
  | (.string bytes, d) => bytes.length + uptoBulk d + 1
  | (_, d) => uptoBulk d + 1
 end
def uptoSmall : (H : Type) → List (DataW H) → Bool := fun _ ds => decide (uptoBulkAll ds ≤ 1048576)
def OpenSpec.upto (s : _root_.Go.ChangeSpec) : _root_.Go.OpenSpec := { _root_.Go.OpenSpec.ofChange s with cond := some uptoSmall }

/-- 'domesdaylaw08.PathNames', WHERE WHAT IT READS IS OF BULK AT MOST 1048576: true; the input reads as it did. -/
def pathNamesUptoRow : OpenClaim := { program := "ytemjlamgnkjejaa", sum := "ea5eb5161e475042926d2de608b5ccb2b00396f640e69ddfd4463ef59ac6aa58", func := "domesday/domesdaylaw08.PathNames", spec := "pathNames", unfollowed := true, recurses := true, apart := false, narrowed := true }
def PathNamesUptoSaid : Prop := pathNamesUptoRow.holds Try.pinned (OpenSpec.upto pathNamesSpec)

/-- 'domesdaylaw06.VfsBuilds', WHERE WHAT IT READS IS OF BULK AT MOST 1048576: true; the input reads as it did. -/
def vfsBuildsUptoRow : OpenClaim := { program := "ytemjlamgnkjejaa", sum := "ea5eb5161e475042926d2de608b5ccb2b00396f640e69ddfd4463ef59ac6aa58", func := "domesday/domesdaylaw06.VfsBuilds", spec := "vfsBuilds", inPlace := ["internal/bytealg.IndexByteString", "internal/bytealg.IndexString"], named := ["internal/bytealg.MaxLen"], apart := false, narrowed := true }
def VfsBuildsUptoSaid : Prop := vfsBuildsUptoRow.holds Try.pinned (OpenSpec.upto vfsBuildsSpec)

/-- 'domesdaylaw06.VfsSame', WHERE WHAT IT READS IS OF BULK AT MOST 1048576: true; the input reads as it did. -/
def vfsSameUptoRow : OpenClaim := { program := "ytemjlamgnkjejaa", sum := "ea5eb5161e475042926d2de608b5ccb2b00396f640e69ddfd4463ef59ac6aa58", func := "domesday/domesdaylaw06.VfsSame", spec := "vfsSame", inPlace := ["internal/bytealg.IndexByteString", "internal/bytealg.IndexString"], unfollowed := true, recurses := true, named := ["internal/bytealg.MaxLen"], apart := false, narrowed := true }
def VfsSameUptoSaid : Prop := vfsSameUptoRow.holds Try.pinned (OpenSpec.upto vfsSameSpec)

/-- 'domesdaylaw06.VfsDevices', WHERE WHAT IT READS IS OF BULK AT MOST 1048576: true; the input reads as it did. -/
def vfsDevicesUptoRow : OpenClaim := { program := "ytemjlamgnkjejaa", sum := "ea5eb5161e475042926d2de608b5ccb2b00396f640e69ddfd4463ef59ac6aa58", func := "domesday/domesdaylaw06.VfsDevices", spec := "vfsDevices", inPlace := ["internal/bytealg.IndexByteString", "internal/bytealg.IndexString"], named := ["internal/bytealg.MaxLen"], apart := false, narrowed := true }
def VfsDevicesUptoSaid : Prop := vfsDevicesUptoRow.holds Try.pinned (OpenSpec.upto vfsDevicesSpec)

end Rows
end Go.Proofs.Ytemjlamgnkjejaa
