/-
  A chain of links in the model: what it is, and where its last one leads. Conditions: fewer than 60 links.
-/
import Derived.Test.YtemjlamgnkjejaaDoorHWalk
import Derived.Test.YtemjlamgnkjejaaDoorHPass
set_option linter.unusedVariables false
namespace Go.Proofs.YtemjlamgnkjejaaDoor
open Go.RowKit

/-- The i-th link's name. -/
def nm (i : Nat) : ByteArray := if i < 10 then ⟨#[108, UInt8.ofNat (48 + i)]⟩ else ⟨#[108, UInt8.ofNat (48 + i / 10), UInt8.ofNat (48 + i % 10)]⟩
def chgF : Chg := ⟨1, 0, 0, nm 0, ⟨#[]⟩, 0, 0, 0⟩
def chgK (i : Nat) : Chg := ⟨3, 0, 0, nm i, nm (i - 1), 0, 0, 0⟩
def loopM : Nat → List Nd
  | 0 => doM newM chgF
  | i + 1 => doM (loopM i) (chgK (i + 1))
def loopOk (k : Nat) : Bool :=
  let r := walkW (loopM k) 0 0 (nm k) true
  if 40 < k then r.err == 6 && (r.pl.id == 0 && (r.pl.dir == 0 && (r.hops == 0 && r.pl.name.data == #[]))) else r.err == 0 && (r.pl.id == 1 && (r.hops == (k : Int) && r.pl.name.data == #[108, 48]))
theorem all_ok : (List.range 60).all loopOk = true := by decide +kernel
theorem nm_size (i : Nat) : (nm i).size ≤ 3 := by
  unfold nm
  split
  · exact (show (2 : Nat) ≤ 3 by omega)
  · exact (show (3 : Nat) ≤ 3 by omega)
theorem loop_small : ∀ i, Small (loopM i) (i + 1)
  | 0 => small_do new_small
  | i + 1 => small_do (loop_small i)
theorem loop_pos : ∀ i, 0 < (loopM i).length
  | 0 => len_do (by decide)
  | i + 1 => len_do (loop_pos i)
theorem loop_tgt : ∀ i, TgtM (loopM i)
  | 0 => tgt_do tgt_new (by decide)
  | i + 1 => tgt_do (loop_tgt i) (by show (nm (i + 1 - 1)).size ≤ 5000; have := nm_size (i + 1 - 1); omega)
theorem ok_at {k : Nat} (h : k < 60) : loopOk k = true := List.all_eq_true.1 all_ok k (List.mem_range.2 h)
end Go.Proofs.YtemjlamgnkjejaaDoor
