/-
  The bits of a number; a node as a value; the table of the classes; what perm's set, letter, searched and bitsFor return. Conditions: the table of classes lies as its text lays it; numbers are int64s.
  What perm's searched returns: may anybody search. Conditions: the table of classes lies as its text lays it.
  What perm's bitsFor and May return. Conditions: the table of classes lies as its text lays it.
-/
import Derived.Test.YtigkdehaepenhaaDoorRows
import Derived.WalkKit
import Derived.WalkSpells
import Derived.WalkLawsBesides
import Derived.Lib.Hide
import Derived.Lib.OthersKept
import Derived.Deep.QuietTactic
import Derived.BigQuiet
import Derived.Deep.WholeRow
import Derived.Deep.MidRow
set_option linter.unusedVariables false
namespace Go.Proofs.YtigkdehaepenhaaDoor.P
open Go.RowKit

/-- The k-th bit of a number, from the lowest one. -/
def bitB (b : Int) (k : Nat) : Bool := decide (b / 2 ^ k % 2 = 1)
theorem and_one (x : Int) : bits .and .i64 x 1 = x % 2 := by
  have h : ((BitVec.ofInt 64 x &&& BitVec.ofInt 64 1).toNat : Int) = x % 2 := by
    rw [BitVec.toNat_and, show (BitVec.ofInt 64 1).toNat = 1 from by decide, Nat.and_one_is_mod, BitVec.toNat_ofInt]
    omega
  have h2 : bits .and .i64 x 1 = IntKind.i64.wrap ((BitVec.ofInt 64 x &&& BitVec.ofInt 64 1).toNat : Int) := rfl
  rw [h2, h]
  have e : x % 2 = 0 ∨ x % 2 = 1 := by omega
  rcases e with e | e <;> rw [e] <;> decide
theorem pret_bool {a b : Bool} (h : a = b) : Ending.returned (.bool a) = .returned (.bool b) := by rw [h]

theorem pset_any (b : Int) (k : Nat) (w : World) (hk : k ≤ 62) :
    Calls Tryd.prog 51 #[.int .i64 b, .int .i64 (k : Int)] w fun e w' => e = .returned (.bool (bitB b k)) ∧ w = w' := by
  have hb : (bits BinOp.and IntKind.i64 (b / 2 ^ k) 1 == 1) = bitB b k := by
    rw [and_one]
    unfold bitB
    by_cases h : b / 2 ^ k % 2 = 1
    · rw [decide_eq_true h, h]; rfl
    · rw [decide_eq_false h]; exact beq_eq_false_iff_ne.2 h
  have HB := Lib.hid hb
  clear hb
  go_enter Tryd.func51, Tryd.ntmps51
  go_wp2
  go_ret
  exact ⟨pret_bool HB.out, rfl⟩
theorem setAt (k : Nat) (i : Int) (h : i = (k : Int)) (hk : k ≤ 62) (b : Int) (w : World) :
    Calls Tryd.prog 51 #[.int .i64 b, .int .i64 i] w fun e w' => e = .returned (.bool (bitB b k)) ∧ w = w' := by subst h; exact pset_any b k w hk

theorem letter_any (b : Bool) (y n : ByteArray) (w : World) :
    Calls Tryd.prog 50 #[.bool b, .string y, .string n] w fun e w' => e = .returned (.string (if b then y else n)) ∧ w = w' := by
  cases b
  · go_enter Tryd.func50, Tryd.ntmps50
    go_wp2
    go_ret
    exact ⟨rfl, rfl⟩
  · go_enter Tryd.func50, Tryd.ntmps50
    go_wp2
    go_ret
    exact ⟨rfl, rfl⟩

/-- A node: its thirteen cells. -/
structure Nv where
  dev : Int
  ino : Int
  kind : Int
  mode : Int
  uid : Int
  gid : Int
  size : Int
  blocks : Int
  links : Int
  ta : Int
  tb : Int
  tc : Int
  target : ByteArray
def nodeV (n : Nv) : Value := .agg #[.int .i64 n.dev, .int .i64 n.ino, .int .i64 n.kind, .int .i64 n.mode, .int .i64 n.uid, .int .i64 n.gid, .int .i64 n.size, .int .i64 n.blocks, .int .i64 n.links, .int .i64 n.ta, .int .i64 n.tb, .int .i64 n.tc, .string n.target]

/-- The table of classes. -/
def classCells : List Value := [.int .i64 6, .int .i64 11, .string ⟨#[115]⟩, .string ⟨#[83]⟩, .int .i64 3, .int .i64 10, .string ⟨#[115]⟩, .string ⟨#[83]⟩, .int .i64 0, .int .i64 9, .string ⟨#[116]⟩, .string ⟨#[84]⟩]
structure Tab (w : World) : Prop where
  cell : w.rangeAt 0 0 classCells
theorem cell_lt {w : World} {a : Addr} {v : Value} (h : w.cell? a = some v) : a.block < w.heap.size := by
  apply Classical.byContradiction
  intro hn
  have : w.heap[a.block]? = none := Array.getElem?_eq_none (by omega)
  unfold World.cell? at h
  simp [this] at h
theorem Tab.keep {w w' : World} (h : Tab w) (hb : Below w.heap.size w w') : Tab w' :=
  ⟨fun j v hj => by rw [hb.cell (p := ⟨0, 0 + j, none⟩) (cell_lt (h.cell j v hj))]; exact h.cell j v hj⟩
theorem pbelow_two {w a b : World} (h : Below w.heap.size w a) (k : Below a.heap.size a b) : Below w.heap.size w b := h.trans (k.mono h.size)
theorem sizeClasses : (Tryd.prog.info? 95).map (·.size) = some classCells.length := by kernel_rfl
theorem class0 : ∀ w : World, (Instr.index 95 (.agg classCells.toArray) (.int .i64 0)).run Tryd.prog w = .ok (.agg #[.int .i64 6, .int .i64 11, .string ⟨#[115]⟩, .string ⟨#[83]⟩]) w := fun _ => by kernel_rfl
theorem class1 : ∀ w : World, (Instr.index 95 (.agg classCells.toArray) (.int .i64 1)).run Tryd.prog w = .ok (.agg #[.int .i64 3, .int .i64 10, .string ⟨#[115]⟩, .string ⟨#[83]⟩]) w := fun _ => by kernel_rfl
theorem class2 : ∀ w : World, (Instr.index 95 (.agg classCells.toArray) (.int .i64 2)).run Tryd.prog w = .ok (.agg #[.int .i64 0, .int .i64 9, .string ⟨#[116]⟩, .string ⟨#[84]⟩]) w := fun _ => by kernel_rfl

def anyB (m : Int) : Bool := bitB m 6 || bitB m 3 || bitB m 0
end Go.Proofs.YtigkdehaepenhaaDoor.P

namespace Go.Proofs.YtigkdehaepenhaaDoor.P
open Go.RowKit

/-- Before round k: nobody of the first k classes searches; the table and the box are as they were. -/
def SRel (W : World) (b : Nat) (m : Int) (v : Value) (w : World) : Prop :=
  ∃ k : Nat, k ≤ 3 ∧ v = .int .i64 (k : Int) ∧ Hid ((0 < k → bitB m 6 = false) ∧ (1 < k → bitB m 3 = false) ∧ (2 < k → bitB m 0 = false)) ∧ Below W.heap.size W w ∧ w.cell? ⟨b, 3, none⟩ = some (.int .i64 m)

end Go.Proofs.YtigkdehaepenhaaDoor.P

namespace Go.Proofs.YtigkdehaepenhaaDoor.P
open Go.RowKit

def credV (u g : Int) : Value := .agg #[.int .i64 u, .int .i64 g]
def bitsP (n : Nv) (u g : Int) : Int := if u = 0 then (if n.kind = 2 ∨ anyB n.mode = true then 7 else 6) else if u = n.uid then n.mode / 2 ^ 6 else if g = n.gid then n.mode / 2 ^ 3 else n.mode 
theorem pret_int {k : IntKind} {a b : Int} (h : a = b) : Ending.returned (.int k a) = .returned (.int k b) := by rw [h]


def mayB (b want : Int) : Bool := (!bitB want 2 || bitB b 2) && (!bitB want 1 || bitB b 1) && (!bitB want 0 || bitB b 0)
/-- Before the round for bit a: all that is wanted of the bits above it is there. -/
def MRel (W : World) (b want : Int) (v : Value) (w : World) : Prop :=
  ∃ a : Int, -1 ≤ a ∧ a ≤ 2 ∧ v = .int .i64 a ∧ Hid ((a < 2 → (!bitB want 2 || bitB b 2) = true) ∧ (a < 1 → (!bitB want 1 || bitB b 1) = true) ∧ (a < 0 → (!bitB want 0 || bitB b 0) = true)) ∧ Below W.heap.size W w

end Go.Proofs.YtigkdehaepenhaaDoor.P
