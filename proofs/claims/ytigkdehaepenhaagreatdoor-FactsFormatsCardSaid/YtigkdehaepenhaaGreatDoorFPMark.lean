/-
  A slice of changes, and one change, that came in. Conditions: none.
  The bits of a number; a node as a value; the table of the classes; what perm's set, letter, searched and bitsFor return. Conditions: the table of classes lies as its text lays it; numbers are int64s.
  What perm's searched returns: may anybody search. Conditions: the table of classes lies as its text lays it.
  What perm's bitsFor and May return. Conditions: the table of classes lies as its text lays it.
  What the listed package-level variables give the walks: the table of classes. Conditions: each fact's own.
  A path's names: what stands between its slashes, by bytes; the library's way, by runes, gives the same. Conditions: none.
  What path.Names and the reference's Names return: a path's names, and whether it begins, and ends, with a slash. Conditions: at most 100000 bytes.
  Where a path leads: the walk over the model's nodes, names ahead of names. Conditions: none.
  Numbers of 64 bits; a node's numbers within their bounds. Conditions: none.
  What perm's Kind, lastLetter and Text return; a strings.Builder that a call has made itself. Conditions: the table of classes lies as its text lays it.
  What perm's Text returns: ten letters. Conditions: the table of classes lies as its text lays it.
  The reference's digits, anyX, has and May. Conditions: modes from 0 to 4095, wants from 0 to 7.
  The reference's May. Conditions: modes from 0 to 4095, wants from 0 to 7.
  The boxes of a node and of who asks; awake; the mode cut to twelve bits. Conditions: the table of classes lies as its text lays it.
  What perm's Mark, and the reference's Kind and Mark return. Conditions: the table of classes lies as its text lays it; the reference's: modes from 0 to 4095.
-/
import Derived.Test.YtigkdehaepenhaaGreatDoorVTwin
import Derived.ProofKit
import Derived.SizedLaws
import Derived.OpenShut
import Derived.ShutString
import Derived.Deep.Slices
import Derived.Deep.Fields
import Derived.Test.YtigkdehaepenhaaGreatDoorRows
import Derived.WalkKit
import Derived.WalkSpells
import Derived.WalkLawsBesides
import Derived.Lib.Hide
import Derived.Lib.OthersKept
import Derived.Deep.QuietTactic
import Derived.BigQuiet
import Derived.Deep.WholeRow
import Derived.Deep.MidRow
import Derived.Test.YtigkdehaepenhaaGreatDoorCards
import Derived.Test.YtigkdehaepenhaaGreatDoorTie
import Derived.Lib.LaidTab
import Derived.ChangeOld
import Derived.Below
import Derived.LaidMore
import Derived.ChangeSame
import Derived.Lay
import Derived.Deep.DeepHandedRow
import Derived.Deep.DeepWitnessRowRef
import Derived.Stop.LaidErr
import Derived.Lib.FieldsP
import Derived.Lib.SpaceUEq
import Derived.Lib.TrimU
import Derived.Test.YtigkdehaepenhaaGreatDoorShelf
import Derived.OwnWalk
import Derived.Deep.AppendLies
import Derived.Test.YtigkdehaepenhaaGreatDoorFVSame
import Derived.Test.YtigkdehaepenhaaGreatDoorShelfB
import Derived.Shelf.Strings.BuilderK
import Derived.Lib.BufSteps
set_option linter.unusedVariables false
set_option linter.unusedSimpArgs false
namespace Go.Proofs.YtigkdehaepenhaaGreatDoor.V
open Go.ChangeShapes Go.WideShapes Go.ChangeAt Go.RowKit Go.Deep

theorem own : ownKnob Tryz.prog.godebug = none := by kernel_rfl
theorem laidOut : laidOutB Tryz.prog = true := by kernel_rfl
theorem cellsInt : Tryz.prog.cellsOf 3 = 1 := by kernel_rfl
theorem cellsI64 : Tryz.prog.cellsOf 2 = 1 := by kernel_rfl
theorem cellsStr : Tryz.prog.cellsOf 9 = 1 := by kernel_rfl
theorem cellsChange : Tryz.prog.cellsOf 54 = 8 := by kernel_rfl

structure WideC (c : Chg) : Prop where
  name : c.name.size ≤ 9223372036854775807
  text : c.text.size ≤ 9223372036854775807
  lo : -9223372036854775808 ≤ c.n
  hi : c.n ≤ 9223372036854775807
  a : -9223372036854775808 ≤ c.a ∧ c.a ≤ 9223372036854775807
  b : -9223372036854775808 ≤ c.b ∧ c.b ≤ 9223372036854775807

theorem le_max_of {n : Nat} (h : n ≤ maxLen) : n ≤ 9223372036854775807 := by unfold maxLen at h; exact h

set_option maxRecDepth 100000 in
theorem chg_of_cells {H : Type} {enc : TypeId × Value → H} {W : World} {base : Nat} {sp : Nat → Bool} {held : Bool} {fuel : Nat} {cs : List Value} {y : DataW H × List MemPlace}
    (h : DataW.trod enc Tryz.prog W base sp held fuel 54 cs = some y) : ∃ c : Chg, cs = chgL c ∧ WideC c := by
  obtain ⟨ys, n, _, _, hlen, hyl, hf⟩ := DataW.trod_struct Tryz.underlying54 h
  rw [cellsChange] at hlen
  have f0 := hf 0 _ rfl
  have f1 := hf 1 _ rfl
  have f2 := hf 2 _ rfl
  have f3 := hf 3 _ rfl
  have f4 := hf 4 _ rfl
  have f5 := hf 5 _ rfl
  have f6 := hf 6 _ rfl
  have f7 := hf 7 _ rfl
  clear hf
  match cs, hlen, ys, hyl with
  | [c0, c1, c2, c3, c4, c5, c6, c7], _, [y0, y1, y2, y3, y4, y5, y6, y7], _ =>
    simp [cellsInt, cellsI64, cellsStr] at f0 f1 f2 f3 f4 f5 f6 f7
    obtain ⟨n0, e0, _, _⟩ := DataW.trod_int Tryz.underlying3 f0
    obtain ⟨n1, e1, _, _⟩ := DataW.trod_int Tryz.underlying3 f1
    obtain ⟨n2, e2, _, _⟩ := DataW.trod_int Tryz.underlying3 f2
    obtain ⟨s3, e3, _, g3⟩ := DataW.trod_string Tryz.underlying9 f3
    obtain ⟨s4, e4, _, g4⟩ := DataW.trod_string Tryz.underlying9 f4
    obtain ⟨n5, e5, _, g5⟩ := DataW.trod_int Tryz.underlying3 f5
    obtain ⟨n6, e6, _, g6⟩ := DataW.trod_int Tryz.underlying3 f6
    obtain ⟨n7, e7, _, g7⟩ := DataW.trod_int Tryz.underlying2 f7
    simp at e0 e1 e2 e3 e4 e5 e6 e7
    have b := bounds_i64 g7
    refine ⟨⟨n0, n1, n2, s3, s4, n5, n6, n7⟩, by rw [e0, e1, e2, e3, e4, e5, e6, e7]; rfl, WideC.mk (le_max_of g3) (le_max_of g4) b.1 b.2 (bounds_i64 g5) (bounds_i64 g6)⟩

theorem changes_of {H : Type} {enc : TypeId × Value → H} {W : World} {base : Nat} {sp : Nat → Bool} {held : Bool} {a : Option Addr} {len cap : Nat} {d : DataW H} {p : List MemPlace}
    (h : DataW.Trod enc Tryz.prog W base sp held 22 (.slice a len cap) d p) :
    ∃ cs : List Chg, cs.length = len ∧ IsChgs W a cs ∧ (∀ c ∈ cs, WideC c) ∧ len ≤ 9223372036854775807 := by
  obtain ⟨fuel, hf⟩ := h
  rcases open_slice Tryz.underlying22 hf with ⟨hcs, _⟩ | ⟨x, l, c, m, n, D, Pl, hcs, _, hl, hm, hmm, _, hx⟩
  · simp [Value.cells] at hcs
    obtain ⟨rfl, rfl, rfl⟩ := hcs
    exact ⟨[], rfl, .inl rfl, fun c hc => (by cases hc), by omega⟩
  · simp [Value.cells] at hcs
    obtain ⟨rfl, rfl, rfl⟩ := hcs
    unfold maxLen at hm
    have hlm : len ≤ m := by rw [hmm]; split <;> omega
    rw [cellsChange] at hx
    have each : ∀ i, i < len → ∃ c : Chg, WideC c ∧ ∀ j v, (chgL c)[j]? = some v → W.cell? (x.add (i * 8 + j)) = some v := by
      intro i hi
      obtain ⟨cs', hc, ht⟩ := hx i (by omega)
      obtain ⟨c, rfl, hw⟩ := chg_of_cells ht
      refine ⟨c, hw, fun j v hj => ?_⟩
      obtain ⟨_, _, hat⟩ := World.cells?_some hc
      have hj8 : j < 8 := (List.getElem?_eq_some_iff.1 hj).1
      have := hat j hj8
      rw [Go.Deep.add_add] at this
      rw [this]
      exact hj
    classical
    by_cases h0 : len = 0
    · exact ⟨[], h0.symm, .inl rfl, fun c hc => (by cases hc), by omega⟩
    · have hin : Inhabited Chg := ⟨⟨0, 0, 0, ByteArray.empty, ByteArray.empty, 0, 0, 0⟩⟩
      obtain ⟨f, hf⟩ := choose_lt each
      obtain ⟨b, off, spot⟩ := x
      have hspot : spot = none := by
        have := (hf 0 (by omega)).2 0 _ rfl
        simpa [Addr.add] using World.cell?_spot this
      subst hspot
      refine ⟨(List.range len).map f, by simp, .inr ⟨b, off, rfl, fun k c hk => ?_⟩, fun c hc => ?_, by omega⟩
      · rw [List.getElem?_map] at hk
        obtain ⟨k', hk', rfl⟩ := Option.map_eq_some_iff.1 hk
        have hkl : k < len := by have := (List.getElem?_eq_some_iff.1 hk').1; simpa using this
        rw [List.getElem?_range hkl] at hk'
        obtain rfl := Option.some.inj hk'
        intro j v hj
        have := (hf k hkl).2 j v hj
        rw [add_plain] at this
        rw [Nat.add_assoc]
        exact this
      · obtain ⟨k, hk, rfl⟩ := List.mem_map.1 hc
        exact (hf k (by simpa using hk)).1
set_option maxRecDepth 100000 in
theorem change_of {H : Type} {enc : TypeId × Value → H} {W : World} {r : Reach} {b0 base : Nat} {sp : Nat → Bool} {held : Bool} {v : Value} {x : DataW H} {p : List MemPlace}
    (hv : Value.okWide Tryz.prog W r b0 54 v) (h : DataW.Trod enc Tryz.prog W base sp held 54 v x p) :
    ∃ c : Chg, v = chgV c ∧ WideC c := by
  obtain ⟨cs, rfl, hsz⟩ := okWide_struct Tryz.underlying54 hv
  obtain ⟨fuel, h⟩ := h
  obtain ⟨c, hc, hw⟩ := chg_of_cells h
  refine ⟨c, ?_, hw⟩
  have : cs.toList = chgL c := by simpa [Value.cells] using hc
  obtain ⟨l⟩ := cs
  simp at this
  rw [this]
  rfl
end Go.Proofs.YtigkdehaepenhaaGreatDoor.V

namespace Go.Proofs.YtigkdehaepenhaaGreatDoor.P
open Go.RowKit

/-- The k-th bit of a number, from the lowest one. -/
def bitB (b : Int) (k : Nat) : Bool := decide (b / 2 ^ k % 2 = 1)
theorem and_one (x : Int) : bits .and .i64 x 1 = x % 2 := by
  have h : ((BitVec.ofInt 64 x &&& BitVec.ofInt 64 1).toNat : Int) = x % 2 := by
    rw [BitVec.toNat_and, show (BitVec.ofInt 64 1).toNat = 1 from by decide, Nat.and_one_is_mod, BitVec.toNat_ofInt]
    omega
  have h2 : bits .and .i64 x 1 = IntKind.i64.wrap ((BitVec.ofInt 64 x &&& BitVec.ofInt 64 1).toNat : Int) := rfl
  rw [h2, h]
  have e : x % 2 = 0 ∨ x % 2 = 1 := by omega
  rcases e with e | e <;> rw [e] <;> decide
theorem pret_bool {a b : Bool} (h : a = b) : Ending.returned (.bool a) = .returned (.bool b) := by rw [h]

theorem pset_any (b : Int) (k : Nat) (w : World) (hk : k ≤ 62) :
    Calls Tryz.prog 113 #[.int .i64 b, .int .i64 (k : Int)] w fun e w' => e = .returned (.bool (bitB b k)) ∧ w = w' := by
  have hb : (bits BinOp.and IntKind.i64 (b / 2 ^ k) 1 == 1) = bitB b k := by
    rw [and_one]
    unfold bitB
    by_cases h : b / 2 ^ k % 2 = 1
    · rw [decide_eq_true h, h]; rfl
    · rw [decide_eq_false h]; exact beq_eq_false_iff_ne.2 h
  have HB := Lib.hid hb
  clear hb
  go_enter Tryz.func113, Tryz.ntmps113
  go_wp2
  go_ret
  exact ⟨pret_bool HB.out, rfl⟩
theorem setAt (k : Nat) (i : Int) (h : i = (k : Int)) (hk : k ≤ 62) (b : Int) (w : World) :
    Calls Tryz.prog 113 #[.int .i64 b, .int .i64 i] w fun e w' => e = .returned (.bool (bitB b k)) ∧ w = w' := by subst h; exact pset_any b k w hk

theorem letter_any (b : Bool) (y n : ByteArray) (w : World) :
    Calls Tryz.prog 112 #[.bool b, .string y, .string n] w fun e w' => e = .returned (.string (if b then y else n)) ∧ w = w' := by
  cases b
  · go_enter Tryz.func112, Tryz.ntmps112
    go_wp2
    go_ret
    exact ⟨rfl, rfl⟩
  · go_enter Tryz.func112, Tryz.ntmps112
    go_wp2
    go_ret
    exact ⟨rfl, rfl⟩

/-- A node: its thirteen cells. -/
structure Nv where
  dev : Int
  ino : Int
  kind : Int
  mode : Int
  uid : Int
  gid : Int
  size : Int
  blocks : Int
  links : Int
  ta : Int
  tb : Int
  tc : Int
  target : ByteArray
def nodeV (n : Nv) : Value := .agg #[.int .i64 n.dev, .int .i64 n.ino, .int .i64 n.kind, .int .i64 n.mode, .int .i64 n.uid, .int .i64 n.gid, .int .i64 n.size, .int .i64 n.blocks, .int .i64 n.links, .int .i64 n.ta, .int .i64 n.tb, .int .i64 n.tc, .string n.target]

/-- The table of classes. -/
def classCells : List Value := [.int .i64 6, .int .i64 11, .string ⟨#[115]⟩, .string ⟨#[83]⟩, .int .i64 3, .int .i64 10, .string ⟨#[115]⟩, .string ⟨#[83]⟩, .int .i64 0, .int .i64 9, .string ⟨#[116]⟩, .string ⟨#[84]⟩]
structure Tab (w : World) : Prop where
  cell : w.rangeAt 0 0 classCells
theorem cell_lt {w : World} {a : Addr} {v : Value} (h : w.cell? a = some v) : a.block < w.heap.size := by
  apply Classical.byContradiction
  intro hn
  have : w.heap[a.block]? = none := Array.getElem?_eq_none (by omega)
  unfold World.cell? at h
  simp [this] at h
theorem Tab.keep {w w' : World} (h : Tab w) (hb : Below w.heap.size w w') : Tab w' :=
  ⟨fun j v hj => by rw [hb.cell (p := ⟨0, 0 + j, none⟩) (cell_lt (h.cell j v hj))]; exact h.cell j v hj⟩
theorem pbelow_two {w a b : World} (h : Below w.heap.size w a) (k : Below a.heap.size a b) : Below w.heap.size w b := h.trans (k.mono h.size)
theorem sizeClasses : (Tryz.prog.info? 158).map (·.size) = some classCells.length := by kernel_rfl
theorem class0 : ∀ w : World, (Instr.index 158 (.agg classCells.toArray) (.int .i64 0)).run Tryz.prog w = .ok (.agg #[.int .i64 6, .int .i64 11, .string ⟨#[115]⟩, .string ⟨#[83]⟩]) w := fun _ => by kernel_rfl
theorem class1 : ∀ w : World, (Instr.index 158 (.agg classCells.toArray) (.int .i64 1)).run Tryz.prog w = .ok (.agg #[.int .i64 3, .int .i64 10, .string ⟨#[115]⟩, .string ⟨#[83]⟩]) w := fun _ => by kernel_rfl
theorem class2 : ∀ w : World, (Instr.index 158 (.agg classCells.toArray) (.int .i64 2)).run Tryz.prog w = .ok (.agg #[.int .i64 0, .int .i64 9, .string ⟨#[116]⟩, .string ⟨#[84]⟩]) w := fun _ => by kernel_rfl

def anyB (m : Int) : Bool := bitB m 6 || bitB m 3 || bitB m 0
end Go.Proofs.YtigkdehaepenhaaGreatDoor.P

namespace Go.Proofs.YtigkdehaepenhaaGreatDoor.P
open Go.RowKit

/-- Before round k: nobody of the first k classes searches; the table and the box are as they were. -/
def SRel (W : World) (b : Nat) (m : Int) (v : Value) (w : World) : Prop :=
  ∃ k : Nat, k ≤ 3 ∧ v = .int .i64 (k : Int) ∧ Hid ((0 < k → bitB m 6 = false) ∧ (1 < k → bitB m 3 = false) ∧ (2 < k → bitB m 0 = false)) ∧ Below W.heap.size W w ∧ w.cell? ⟨b, 3, none⟩ = some (.int .i64 m)

end Go.Proofs.YtigkdehaepenhaaGreatDoor.P

namespace Go.Proofs.YtigkdehaepenhaaGreatDoor.P
open Go.RowKit

def credV (u g : Int) : Value := .agg #[.int .i64 u, .int .i64 g]
def bitsP (n : Nv) (u g : Int) : Int := if u = 0 then (if n.kind = 2 ∨ anyB n.mode = true then 7 else 6) else if u = n.uid then n.mode / 2 ^ 6 else if g = n.gid then n.mode / 2 ^ 3 else n.mode 
theorem pret_int {k : IntKind} {a b : Int} (h : a = b) : Ending.returned (.int k a) = .returned (.int k b) := by rw [h]


def mayB (b want : Int) : Bool := (!bitB want 2 || bitB b 2) && (!bitB want 1 || bitB b 1) && (!bitB want 0 || bitB b 0)
/-- Before the round for bit a: all that is wanted of the bits above it is there. -/
def MRel (W : World) (b want : Int) (v : Value) (w : World) : Prop :=
  ∃ a : Int, -1 ≤ a ∧ a ≤ 2 ∧ v = .int .i64 a ∧ Hid ((a < 2 → (!bitB want 2 || bitB b 2) = true) ∧ (a < 1 → (!bitB want 1 || bitB b 1) = true) ∧ (a < 0 → (!bitB want 0 || bitB b 0) = true)) ∧ Below W.heap.size W w

end Go.Proofs.YtigkdehaepenhaaGreatDoor.P

namespace Go.Proofs.YtigkdehaepenhaaGreatDoor.G
open Go.ChangeShapes Go.WideShapes Go.ChangeAt Go.RowKit Go.Deep

theorem own : ownKnob Tryz.prog.godebug = none := V.own
theorem laidOut : laidOutB Tryz.prog = true := V.laidOut
def htxt (l : List UInt8) : ByteArray := ⟨l.toArray⟩
theorem gCls : Tryz.prog.globalNamed "domesday/perm.classes" = some 0 := by kernel_rfl
theorem gClsType : (Tryz.prog.globals[0]?).map (·.type) = some 158 := by kernel_rfl
theorem cellsCls : Tryz.prog.cellsOf 157 = 4 := by kernel_rfl
theorem cells3Cls : Tryz.prog.cellsOf 158 = 12 := by kernel_rfl
set_option maxRecDepth 100000 in
/-- A class that reads as two numbers and two texts holds them, cell by cell. -/
theorem cls_of {H : Type} {enc : TypeId × Value → H} {w : World} {base : Nat} {sp : Nat → Bool} {held : Bool} {fuel : Nat} {cs : List Value} {f s : Int} {x X : List UInt8} {y : DataW H × List MemPlace}
    (h : DataW.trod enc Tryz.prog w base sp held fuel 157 cs = some y) (hy : y.1 = .agg [.lit (.int .i64 f), .lit (.int .i64 s), .lit (.string x), .lit (.string X)]) :
    cs[0]? = some (.int .i64 f) ∧ cs[1]? = some (.int .i64 s) ∧ cs[2]? = some (.string (htxt x)) ∧ cs[3]? = some (.string (htxt X)) := by
  obtain ⟨ys, n, _, rfl, hl, hyl, hf⟩ := DataW.trod_struct Tryz.underlying157 h
  rw [cellsCls] at hl
  have f0 := hf 0 _ rfl
  have f1 := hf 1 _ rfl
  have f2 := hf 2 _ rfl
  have f3 := hf 3 _ rfl
  clear hf
  match cs, hl, ys, hyl with
  | [c0, c1, c2, c3], _, [y0, y1, y2, y3], _ =>
    simp [V.cellsInt, V.cellsStr] at f0 f1 f2 f3
    obtain ⟨n0, e0, k0, _⟩ := DataW.trod_int Tryz.underlying3 f0
    obtain ⟨n1, e1, k1, _⟩ := DataW.trod_int Tryz.underlying3 f1
    obtain ⟨s2, e2, k2, _⟩ := DataW.trod_string Tryz.underlying9 f2
    obtain ⟨s3, e3, k3, _⟩ := DataW.trod_string Tryz.underlying9 f3
    simp at e0 e1 e2 e3
    simp [k0, k1, k2, k3] at hy
    obtain ⟨h0, h1, h2, h3⟩ := hy
    refine ⟨by rw [e0, h0]; rfl, by rw [e1, h1]; rfl, ?_, ?_⟩
    · rw [e2, ← h2]; cases s2; simp [htxt]
    · rw [e3, ← h3]; cases s3; simp [htxt]

set_option maxRecDepth 100000 in
theorem tab_of {W : World} {x : String × DataW Unit} {l : List (String × DataW Unit)} (h : laidMet Tryz.prog (x :: ("domesday/perm.classes", Rows.laid_domesday_perm_classes) :: l) W) : P.Tab W := by
  obtain ⟨ps, ⟨_, _, _, _, _, _, _, _, _, _, ⟨g', t', cs, fuel, p, q, hg', ht', hvar, hd, _, _⟩, _⟩, _⟩ := h
  obtain rfl := Option.some.inj (gCls.symm.trans hg')
  obtain rfl := Option.some.inj (gClsType.symm.trans ht')
  obtain ⟨xs, m, _, hx, hlen, hxl, ha⟩ := DataW.trod_array Tryz.underlying158 hd
  have a0 := ha 0 (by decide)
  have a1 := ha 1 (by decide)
  have a2 := ha 2 (by decide)
  clear ha
  have hx1 := congrArg Prod.fst hx
  unfold Rows.laid_domesday_perm_classes at hx1
  match xs, hxl with
  | [z0, z1, z2], _ =>
    simp only [List.map_cons, List.map_nil, DataW.agg.injEq, List.cons.injEq, and_true] at hx1
    obtain ⟨k0, k1, k2⟩ := hx1
    rw [cellsCls] at a0 a1 a2
    have c0 := cls_of a0 k0.symm
    have c1 := cls_of a1 k1.symm
    have c2 := cls_of a2 k2.symm
    refine ⟨fun j v hj => ?_⟩
    rw [World.var?_cell gCls hvar (0 + j)]
    simp at c0 c1 c2
    have hl : j < 12 := (List.getElem?_eq_some_iff.1 hj).1
    match j, hl, hj with
    | 0, _, hj => cases Option.some.inj hj; exact c0.1
    | 1, _, hj => cases Option.some.inj hj; exact c0.2.1
    | 2, _, hj => cases Option.some.inj hj; exact c0.2.2.1
    | 3, _, hj => cases Option.some.inj hj; exact c0.2.2.2
    | 4, _, hj => cases Option.some.inj hj; exact c1.1
    | 5, _, hj => cases Option.some.inj hj; exact c1.2.1
    | 6, _, hj => cases Option.some.inj hj; exact c1.2.2.1
    | 7, _, hj => cases Option.some.inj hj; exact c1.2.2.2
    | 8, _, hj => cases Option.some.inj hj; exact c2.1
    | 9, _, hj => cases Option.some.inj hj; exact c2.2.1
    | 10, _, hj => cases Option.some.inj hj; exact c2.2.2.1
    | 11, _, hj => cases Option.some.inj hj; exact c2.2.2.2
end Go.Proofs.YtigkdehaepenhaaGreatDoor.G

namespace Go.Proofs.YtigkdehaepenhaaGreatDoor.V

/-- Does byte i of a text stand for a slash? -/
def sl (s : ByteArray) (i : Nat) : Bool := (s.get! i).toNat == 47
/-- One step: at the end, or at a slash, what stands behind the last one is a name, if it isn't empty. -/
def nmStep (s : ByteArray) (i : Nat) (x : List (Nat × Nat) × Nat) : List (Nat × Nat) × Nat :=
  if i = s.size ∨ sl s i = true then ((if x.2 < i then x.1 ++ [(x.2, i)] else x.1), i + 1) else x
def nmGo (s : ByteArray) : Nat → List (Nat × Nat) × Nat
  | 0 => ([], 0)
  | i + 1 => nmStep s i (nmGo s i)
/-- Where the names of a text lie. -/
def nmSpans (s : ByteArray) : List (Nat × Nat) := (nmGo s (s.size + 1)).1
def namesL (s : ByteArray) : List ByteArray := (nmSpans s).map fun x => s.extract x.1 x.2
def isSl (r : Nat) : Bool := r == 47

theorem nmGo_le (s : ByteArray) : ∀ i, (nmGo s i).2 ≤ i
  | 0 => Nat.le_refl _
  | i + 1 => by
    have := nmGo_le s i
    rw [nmGo, nmStep]
    split
    · exact Nat.le_refl _
    · omega
/-- Bytes that are no slashes change nothing. -/
theorem nmGo_skip (s : ByteArray) (i : Nat) : ∀ k, (∀ j, j < k → i + j < s.size ∧ sl s (i + j) = false) → nmGo s (i + k) = nmGo s i
  | 0, _ => rfl
  | k + 1, h => by
    have ih := nmGo_skip s i k (fun j hj => h j (by omega))
    obtain ⟨h1, h2⟩ := h k (by omega)
    rw [show i + (k + 1) = (i + k) + 1 by omega, nmGo, nmStep, if_neg (by rw [h2]; simp; omega), ih]

theorem decode_sl (s : ByteArray) (i : Nat) (hi : i < s.size) : (isSl (Utf8.decode s i).1 = true → sl s i = true ∧ (Utf8.decode s i).2 = 1) ∧ (isSl (Utf8.decode s i).1 = false → ∀ j, j < (Utf8.decode s i).2 → i + j < s.size ∧ sl s (i + j) = false) := by
  rw [Lib.decode_at]
  have hc := Lib.decodeN_conts (s.size - i) (s.get! i).toNat (s.get! (i + 1)).toNat (s.get! (i + 2)).toNat (s.get! (i + 3)).toNat
  have e0 : sl s i = ((s.get! i).toNat == 47) := rfl
  have e1 : sl s (i + 1) = ((s.get! (i + 1)).toNat == 47) := rfl
  have e2 : sl s (i + 2) = ((s.get! (i + 2)).toNat == 47) := rfl
  have e3 : sl s (i + 3) = ((s.get! (i + 3)).toNat == 47) := rfl
  generalize (s.get! i).toNat = b0 at *
  generalize (s.get! (i + 1)).toNat = b1 at *
  generalize (s.get! (i + 2)).toNat = b2 at *
  generalize (s.get! (i + 3)).toNat = b3 at *
  have H : (b0 < 128 ∧ Lib.decodeN (s.size - i) b0 b1 b2 b3 = (b0, 1)) ∨ (128 ≤ b0 ∧ 48 ≤ (Lib.decodeN (s.size - i) b0 b1 b2 b3).1) := by
    rcases Lib.decodeN_cases (s.size - i) b0 b1 b2 b3 with h | ⟨a, b, c, d, e⟩ | ⟨a, b, c, c', d, e⟩ | ⟨a, b⟩ | e
    · exact .inl h
    · exact .inr ⟨by omega, by rw [e]; show 48 ≤ _; omega⟩
    · exact .inr ⟨by omega, by rw [e]; show 48 ≤ _; omega⟩
    · refine .inr ⟨?_, by omega⟩
      by_cases q : b0 < 128
      · rw [Lib.decodeN_ascii _ _ _ _ _ q] at b; simp at b
      · omega
    · by_cases q : b0 < 128
      · exact .inl ⟨q, Lib.decodeN_ascii _ _ _ _ _ q⟩
      · exact .inr ⟨by omega, by rw [e]; show 48 ≤ _; omega⟩
  constructor
  · intro h
    unfold isSl at h
    rcases H with ⟨q, e⟩ | ⟨q, e⟩
    · rw [e] at h ⊢
      exact ⟨by rw [e0]; exact h, rfl⟩
    · rw [beq_iff_eq] at h; omega
  · intro h j hj
    have z0 : sl s i = false := by
      rw [e0, beq_eq_false_iff_ne]
      rcases H with ⟨q, e⟩ | ⟨q, e⟩
      · rw [e] at h; unfold isSl at h; exact beq_eq_false_iff_ne.1 h
      · omega
    obtain ⟨c1, c2, c3, c4⟩ := hc
    match j, hj with
    | 0, _ => exact ⟨by omega, z0⟩
    | 1, hj => have := c1 (by omega); exact ⟨by omega, by rw [e1, beq_eq_false_iff_ne]; omega⟩
    | 2, hj => have := c2 (by omega); exact ⟨by omega, by rw [e2, beq_eq_false_iff_ne]; omega⟩
    | 3, hj => have := c3 (by omega); exact ⟨by omega, by rw [e3, beq_eq_false_iff_ne]; omega⟩
    | j + 4, hj => omega

def accOf (st : Option Nat) (pos : Nat) (acc : List (Nat × Nat)) : List (Nat × Nat) := match st with
  | some a => acc ++ [(a, pos)]
  | none => acc
theorem spans_yes {p : Nat → Bool} {s : ByteArray} {f pos : Nat} {st : Option Nat} {acc : List (Nat × Nat)} (h : pos < s.size) (hp : p (Utf8.decode s pos).1 = true) :
    Lib.spansFromP p s (f + 1) pos st acc = Lib.spansFromP p s f (pos + (Utf8.decode s pos).2) none (accOf st pos acc) := by
  cases st <;> simp [Lib.spansFromP, h, hp, accOf]
theorem spans_no {p : Nat → Bool} {s : ByteArray} {f pos : Nat} {st : Option Nat} {acc : List (Nat × Nat)} (h : pos < s.size) (hp : p (Utf8.decode s pos).1 = false) :
    Lib.spansFromP p s (f + 1) pos st acc = Lib.spansFromP p s f (pos + (Utf8.decode s pos).2) (some (st.getD pos)) acc := by
  cases st <;> simp [Lib.spansFromP, h, hp]
def stOf (x : List (Nat × Nat) × Nat) (i : Nat) : Option Nat := if x.2 < i then some x.2 else none
theorem spans_nm (s : ByteArray) : ∀ (f pos : Nat), pos ≤ s.size → s.size ≤ pos + f →
    Lib.closeSpans s (Lib.spansFromP isSl s f pos (stOf (nmGo s pos) pos) (nmGo s pos).1) = nmSpans s
  | f, pos, hp, hf => by
    by_cases hlt : pos < s.size
    · obtain ⟨f, rfl⟩ : ∃ g, f = g + 1 := ⟨f - 1, by omega⟩
      obtain ⟨d1, d2⟩ := decode_sl s pos hlt
      have hw := Lib.width_pos s pos
      cases hb : isSl (Utf8.decode s pos).1 with
      | true =>
        obtain ⟨s1, s2⟩ := d1 hb
        have ih := spans_nm s f (pos + 1) (by omega) (by omega)
        have eg : nmGo s (pos + 1) = ((if (nmGo s pos).2 < pos then (nmGo s pos).1 ++ [((nmGo s pos).2, pos)] else (nmGo s pos).1), pos + 1) := by
          rw [nmGo, nmStep, if_pos (.inr s1)]
        rw [spans_yes hlt hb, s2]
        rw [eg] at ih
        have e0 : stOf ((if (nmGo s pos).2 < pos then (nmGo s pos).1 ++ [((nmGo s pos).2, pos)] else (nmGo s pos).1), pos + 1) (pos + 1) = none := by
          unfold stOf
          rw [if_neg (by show ¬ pos + 1 < pos + 1; omega)]
        rw [e0] at ih
        unfold stOf
        by_cases q : (nmGo s pos).2 < pos
        · rw [if_pos q]
          rw [if_pos q] at ih
          exact ih
        · rw [if_neg q]
          rw [if_neg q] at ih
          exact ih
      | false =>
        have hk := d2 hb
        rw [spans_no hlt hb]
        generalize hkk : (Utf8.decode s pos).2 = k at *
        have hle : pos + k ≤ s.size := by have := (hk (k - 1) (by omega)).1; omega
        have ih := spans_nm s f (pos + k) hle (by omega)
        rw [nmGo_skip s pos k hk] at ih
        have hn := nmGo_le s pos
        unfold stOf at ih ⊢
        rw [if_pos (by omega)] at ih
        by_cases q : (nmGo s pos).2 < pos
        · rw [if_pos q]
          exact ih
        · rw [if_neg q]
          have e : (nmGo s pos).2 = pos := by omega
          rw [e] at ih
          exact ih
    · obtain rfl : pos = s.size := by omega
      rw [Lib.spansFromP_end isSl s f _ _ _ hlt]
      unfold nmSpans
      rw [nmGo, nmStep, if_pos (.inl rfl)]
      unfold stOf Lib.closeSpans
      by_cases q : (nmGo s s.size).2 < s.size
      · rw [if_pos q, if_pos q]
      · rw [if_neg q, if_neg q]
theorem fields_names (s : ByteArray) : Lib.goFieldsP isSl s = namesL s := by
  unfold Lib.goFieldsP namesL Lib.spansOfP
  have := spans_nm s s.size 0 (Nat.zero_le _) (by omega)
  have e : stOf (nmGo s 0) 0 = none := rfl
  rw [e] at this
  exact congrArg (List.map fun x => s.extract x.1 x.2) this
/-- How many, and where. -/
theorem nmGo_ok (s : ByteArray) : ∀ i, i ≤ s.size + 1 → (nmGo s i).1.length ≤ i ∧ ∀ x ∈ (nmGo s i).1, x.1 < x.2 ∧ x.2 ≤ s.size
  | 0, _ => ⟨Nat.le_refl _, fun x hx => by simp [nmGo] at hx⟩
  | i + 1, h => by
    obtain ⟨h1, h2⟩ := nmGo_ok s i (by omega)
    rw [nmGo, nmStep]
    split
    · split
      · refine ⟨by simp; omega, fun x hx => ?_⟩
        rcases List.mem_append.1 hx with hx | hx
        · exact h2 x hx
        · simp at hx; subst hx; exact ⟨by assumption, by show i ≤ _; omega⟩
      · exact ⟨by show (nmGo s i).1.length ≤ i + 1; omega, h2⟩
    · exact ⟨by omega, h2⟩
end Go.Proofs.YtigkdehaepenhaaGreatDoor.V

namespace Go.Proofs.YtigkdehaepenhaaGreatDoor.V
open Go.RowKit Go.Shelf

def strs (l : List ByteArray) : List Value := l.map Value.string
def beginsB (s : ByteArray) : Bool := Lib.hasPrefix s.data.toList [47]
def endsB (s : ByteArray) : Bool := Lib.hasSuffix s.data.toList [47]



/-- What the reference's loop holds: i bytes are read. -/
def RNmRel (s : ByteArray) (w : World) (v f i : Value) (wr : World) : Prop :=
  ∃ k : Nat, k ≤ s.size + 1 ∧ i = .int .i64 (k : Int) ∧ f = .int .i64 ((nmGo s k).2 : Int) ∧ Hid (Below w.heap.size w wr) ∧ Hid (wr.ownsRow w.heap.size 9 1 v (nmGo s k).1.length ((nmGo s k).1.map fun x => .string (s.extract x.1 x.2)))
theorem infoStr : (Tryz.prog.info? 9).map (fun i => (i.zero, i.size, i.bytes)) = some (some (.string ⟨#[]⟩), 1, 16) := by kernel_rfl

end Go.Proofs.YtigkdehaepenhaaGreatDoor.V

namespace Go.Proofs.YtigkdehaepenhaaGreatDoor.V
open Go.Proofs.YtigkdehaepenhaaGreatDoor.P
open Go.RowKit

/-- A node as perm's texts have it. -/
def nvOf (n : Nd) : Nv := ⟨n.dev, n.ino, n.kind, n.mode, n.uid, n.gid, n.size, n.blocks, n.links, n.t0, n.t1, n.t2, n.target⟩
def zeroNv : Nv := ⟨0, 0, 0, 0, 0, 0, 0, 0, 0, 0, 0, 0, ⟨#[]⟩⟩
def nvAt (M : List Nd) (i : Int) : Nv := match atM M i with
  | none => zeroNv
  | some n => nvOf n
theorem nodeV_nv (M : List Nd) (i : Int) : nodeV' M i = nodeV (nvAt M i) := by
  unfold nodeV' nvAt
  cases atM M i <;> rfl
def kindM (M : List Nd) (i : Int) : Int := (nvAt M i).kind
/-- A place: the node, and by which name's entry it was come to. -/
structure Pl where
  id : Int
  dir : Int
  name : ByteArray
def plOf (i : Int) : Pl := ⟨i, i, ⟨#[]⟩⟩
def findE (s : ByteArray) : List (ByteArray × Int) → Option Int
  | [] => none
  | x :: r => if sameT x.1 s = true then some x.2 else findE s r
/-- From a directory by a name. -/
def entW (M : List Nd) (u g : Int) (at_ : Int) (s : ByteArray) : Except Int Pl :=
  if kindM M at_ = 2 then
    (if mayB (bitsP (nvAt M at_) u g) 1 = true then
      (if s.size ≤ 255 then
        (if s.toList = [46] then .ok (plOf at_)
         else if s.toList = [46, 46] then .ok (plOf (overI M (upI M at_)))
         else if listE M at_ = 0 then
           (match findE s (listL M at_) with
            | none => .error 2
            | some i => .ok ⟨overI M i, at_, s⟩)
         else .error (listE M at_))
       else .error 7)
     else .error 5)
  else .error 3
/-- Is a node a link that is followed? -/
def thruW (M : List Nd) (follow slash : Bool) (r : List ByteArray) (i : Int) : Bool := kindM M i == 3 && (follow || (slash || decide (0 < r.length)))
/-- What a walk comes to: the error, or 0; the place; how many links were followed. -/
structure Res where
  err : Int
  pl : Pl
  hops : Int
def bad (e : Int) : Res := ⟨e, ⟨0, 0, ⟨#[]⟩⟩, 0⟩
def endW (M : List Nd) (slash : Bool) (p : Pl) (hops : Int) : Res :=
  if slash = true ∧ kindM M p.id ≠ 2 then bad 3 else ⟨0, p, hops⟩
/-- Along names, until a link is met. -/
def goL (M : List Nd) (u g : Int) (follow : Bool) (hops : Int) (k : Int → List ByteArray → Pl → Bool → Res) : List ByteArray → Pl → Bool → Res
  | [], p, slash => endW M slash p hops
  | s :: r, p, slash => match entW M u g p.id s with
    | .error e => bad e
    | .ok q => if thruW M follow slash r q.id = true then k q.id r p slash else goL M u g follow hops k r q slash
/-- With h links still to be followed. -/
def goW (M : List Nd) (u g : Int) (follow : Bool) : Nat → List ByteArray → Pl → Bool → Res
  | 0, l, p, slash => goL M u g follow 40 (fun _ _ _ _ => bad 6) l p slash
  | h + 1, l, p, slash => goL M u g follow (40 - (h + 1 : Nat)) (fun i r q sl => if linkE M i = 0 then goW M u g follow h (namesL (linkT M i) ++ r) (if beginsB (linkT M i) = true then plOf 0 else q) (sl || (endsB (linkT M i) && r.isEmpty)) else bad (linkE M i)) l p slash
def walkW (M : List Nd) (u g : Int) (s : ByteArray) (follow : Bool) : Res :=
  if s.size = 0 then bad 2 else if 4096 < s.size then bad 7 else goW M u g follow 40 (namesL s) (plOf 0) (endsB s)
def kOf (M : List Nd) (u g : Int) (follow : Bool) : Nat → Int → List ByteArray → Pl → Bool → Res
  | 0 => fun _ _ _ _ => bad 6
  | h + 1 => fun i r q sl => if linkE M i = 0 then goW M u g follow h (namesL (linkT M i) ++ r) (if beginsB (linkT M i) = true then plOf 0 else q) (sl || (endsB (linkT M i) && r.isEmpty)) else bad (linkE M i)
theorem goW_nil (M : List Nd) (u g : Int) (follow : Bool) (h : Nat) (p : Pl) (sl : Bool) : goW M u g follow h [] p sl = endW M sl p (40 - (h : Int)) := by
  cases h <;> rfl
theorem goW_cons (M : List Nd) (u g : Int) (follow : Bool) (h : Nat) (s : ByteArray) (r : List ByteArray) (p : Pl) (sl : Bool) : goW M u g follow h (s :: r) p sl =
    match entW M u g p.id s with
    | .error e => bad e
    | .ok q => if thruW M follow sl r q.id = true then kOf M u g follow h q.id r p sl else goW M u g follow h r q sl := by
  cases h <;> rfl
theorem entW_err {M : List Nd} {u g i : Int} {s : ByteArray} {e : Int} (h : entW M u g i s = .error e) : e ≠ 0 := by
  unfold entW at h
  by_cases h1 : kindM M i = 2
  · rw [if_pos h1] at h
    by_cases h2 : mayB (bitsP (nvAt M i) u g) 1 = true
    · rw [if_pos h2] at h
      by_cases h3 : s.size ≤ 255
      · rw [if_pos h3] at h
        by_cases h4 : s.toList = [46]
        · rw [if_pos h4] at h; cases h
        · rw [if_neg h4] at h
          by_cases h5 : s.toList = [46, 46]
          · rw [if_pos h5] at h; cases h
          · rw [if_neg h5] at h
            by_cases h6 : listE M i = 0
            · rw [if_pos h6] at h
              cases hf : findE s (listL M i) with
              | none => rw [hf] at h; have := Except.error.inj h; omega
              | some j => rw [hf] at h; cases h
            · rw [if_neg h6] at h
              have := Except.error.inj h
              omega
      · rw [if_neg h3] at h; have := Except.error.inj h; omega
    · rw [if_neg h2] at h; have := Except.error.inj h; omega
  · rw [if_neg h1] at h; have := Except.error.inj h; omega
theorem known_nv (n : Nv) : nodeV n = .agg #[.int .i64 n.dev, .int .i64 n.ino, .int .i64 n.kind, .int .i64 n.mode, .int .i64 n.uid, .int .i64 n.gid, .int .i64 n.size, .int .i64 n.blocks, .int .i64 n.links, .int .i64 n.ta, .int .i64 n.tb, .int .i64 n.tc, .string n.target] := rfl
end Go.Proofs.YtigkdehaepenhaaGreatDoor.V

namespace Go.Proofs.YtigkdehaepenhaaGreatDoor.J

def I64 (x : Int) : Prop := -9223372036854775808 ≤ x ∧ x ≤ 9223372036854775807
theorem i64_small {x : Int} (h : 0 ≤ x) (h2 : x ≤ 9223372036854775807) : I64 x := ⟨by omega, h2⟩
/-- The numbers of a node, as they are told. -/
structure NumJ (n : P.Nv) : Prop where
  size : I64 n.size
  blk : I64 n.blocks
  ta : I64 n.ta
  tb : I64 n.tb
  tc : I64 n.tc
  uid : I64 n.uid
  gid : I64 n.gid
  ino : I64 n.ino
  dev : I64 n.dev
  lnk : I64 n.links
  m0 : 0 ≤ n.mode
  m1 : n.mode < 4096
  kind : n.kind = 1 ∨ n.kind = 2 ∨ n.kind = 3
end Go.Proofs.YtigkdehaepenhaaGreatDoor.J

namespace Go.Proofs.YtigkdehaepenhaaGreatDoor.P
open Go.RowKit

/-- A text of a list's bytes. -/
def txt (l : List UInt8) : ByteArray := ⟨l.toArray⟩
theorem txt_size (l : List UInt8) : (txt l).size = l.length := by show l.toArray.size = _; simp
theorem txt_append (a b : List UInt8) : txt a ++ txt b = txt (a ++ b) := by
  unfold txt
  rw [ByteArray.mk_append_mk]
theorem txt_list (l : List UInt8) : (txt l).data.toList = l := by simp [txt]

/-- In w the builder at b, made behind W0, holds l; nothing of W0 has changed. -/
def Bld (W0 : World) (b : Nat) (l : List UInt8) (w : World) : Prop := Lib.IsBuilderF 106 5 W0.heap.size b (Lib.byteCells l) w ∧ Below W0.heap.size W0 w ∧ W0.heap.size ≤ w.heap.size
theorem at_keep {T e : TypeId} {B b : Nat} {p : Value} {bs : List Value} {w w' : World} (h : Lib.BuilderAtF T e B b p bs w) (hb : Below w.heap.size w w') : Lib.BuilderAtF T e B b p bs w' := by
  have hlt := h.lt
  obtain ⟨hB, v, hbk, hown, hne⟩ := h
  refine ⟨hB, v, (hb.block b hlt).trans hbk, ?_, hne⟩
  exact hown.kept (row := none) ⟨hb.os, hb.tape, hb.output, hb.size, fun k hk _ => hb.block k hk⟩ (by cases v.ownBlock <;> simp)
theorem Bld.keep {W0 : World} {b : Nat} {l : List UInt8} {w w' : World} (h : Bld W0 b l w) (hb : Below w.heap.size w w') : Bld W0 b l w' := by
  obtain ⟨h1, h2, h3⟩ := h
  refine ⟨?_, h2.trans (hb.mono h3), Nat.le_trans h3 hb.size⟩
  rcases h1 with h1 | h1
  · exact .inl (at_keep h1 hb)
  · exact .inr (at_keep h1 hb)
theorem Bld.made (W0 : World) : Bld W0 W0.heap.size [] (W0.alloc (.cells #[.pointer none, .slice none 0 0] 106)) := by
  refine ⟨.inl ⟨Nat.le_refl _, .slice none 0 0, ?_, World.ownsRowF_nil _ _ _ _, by simp [Value.ownBlock]⟩, (Below.refl _ _).alloc (Nat.le_refl _) _, by simp⟩
  exact heap_alloc_new _ _
/-- The four cells of a class's copy. -/
def CopyAt (k : Nat) (f s : Int) (x X : ByteArray) (w : World) : Prop := w.heap[k]? = some (.cells #[.int .i64 f, .int .i64 s, .string x, .string X] 157)
theorem Bld.writeString {W0 : World} {b : Nat} {l : List UInt8} {w : World} (h : Bld W0 b l w) (hl : l.length ≤ 1000000000) (s : ByteArray) (hs : s.size ≤ 1000000000) :
    Calls Tryz.prog 46 #[.pointer (some ⟨b, 0, none⟩), .string s] w fun e w' => (∃ v, e = .returned v) ∧ Bld W0 b (l ++ s.data.toList) w' ∧ ∀ k o, w.heap[k]? = some o → k ≠ b → (∀ c fz, o ≠ .cells c 5 fz) → w'.heap[k]? = some o := by
  obtain ⟨h1, h2, h3⟩ := h
  refine (Any.Builder_WriteString_k Tryz.laysB166 Tryz.Builder_Extra_B W0.heap.size b (Lib.byteCells l) s w h1 (by rw [Lib.byteCells_length]; omega) h3).mono ?_
  rintro e w' ⟨rfl, hA, hb, hk⟩
  refine ⟨⟨_, rfl⟩, ⟨.inr ?_, h2.trans hb, Nat.le_trans h3 hb.size⟩, fun k o h n c => hk k o h (fun e => n (Option.some.inj e)) c⟩
  rw [Lib.byteCells_append]
  exact hA
theorem Bld.string {W0 : World} {b : Nat} {l : List UInt8} {w : World} (h : Bld W0 b l w) :
    Calls Tryz.prog 47 #[.pointer (some ⟨b, 0, none⟩)] w fun e w' => e = .returned (.string (txt l)) ∧ Below W0.heap.size W0 w' := by
  obtain ⟨h1, h2, h3⟩ := h
  refine (Any.Builder_String_any_k Tryz.laysB169 Tryz.Builder_Extra_B W0.heap.size b l w h1 h3).mono ?_
  rintro e w' ⟨rfl, _, hb, _⟩
  exact ⟨rfl, h2.trans hb⟩

def kindL (k : Int) : List UInt8 := if k = 1 then [45] else if k = 2 then [100] else if k = 3 then [108] else [63]
def lastL (m : Int) (f s : Nat) (x X : UInt8) : UInt8 := if bitB m s then (if bitB m f then x else X) else (if bitB m f then 120 else 45)
def clsL (m : Int) (f s : Nat) (x X : UInt8) : List UInt8 := [if bitB m (f + 2) then 114 else 45, if bitB m (f + 1) then 119 else 45, lastL m f s x X]
def textP (k m : Int) : List UInt8 := kindL k ++ clsL m 6 11 115 83 ++ clsL m 3 10 115 83 ++ clsL m 0 9 116 84

set_option maxHeartbeats 1000000 in
theorem kind_any (n : Nv) (w : World) :
    Calls Tryz.prog 111 #[nodeV n] w fun e w' => e = .returned (.string (txt (kindL n.kind))) ∧ Below w.heap.size w w' := by
  unfold nodeV
  by_cases h1 : n.kind = 1
  · have HR := Lib.hid (show kindL n.kind = [45] by unfold kindL; rw [if_pos h1])
    have t1 : (n.kind == 1) = true := beq_iff_eq.2 h1
    clear h1
    go_enter Tryz.func111, Tryz.ntmps111
    go_wp2
    go_ret
    exact ⟨by rw [HR.out]; rfl, by (repeat (first | (with_reducible apply Below.setCell (hp := ?_)) | (with_reducible apply Below.alloc (hB := ?_)) | (with_reducible exact Below.refl _ _) | (simp; done) | omega))⟩
  · have t1 : (n.kind == 1) = false := beq_eq_false_iff_ne.2 h1
    by_cases h2 : n.kind = 2
    · have HR := Lib.hid (show kindL n.kind = [100] by unfold kindL; rw [if_neg h1, if_pos h2])
      have t2 : (n.kind == 2) = true := beq_iff_eq.2 h2
      clear h1 h2
      go_enter Tryz.func111, Tryz.ntmps111
      go_wp2
      go_ret
      exact ⟨by rw [HR.out]; rfl, by (repeat (first | (with_reducible apply Below.setCell (hp := ?_)) | (with_reducible apply Below.alloc (hB := ?_)) | (with_reducible exact Below.refl _ _) | (simp; done) | omega))⟩
    · have t2 : (n.kind == 2) = false := beq_eq_false_iff_ne.2 h2
      by_cases h3 : n.kind = 3
      · have HR := Lib.hid (show kindL n.kind = [108] by unfold kindL; rw [if_neg h1, if_neg h2, if_pos h3])
        have t3 : (n.kind == 3) = true := beq_iff_eq.2 h3
        clear h1 h2 h3
        go_enter Tryz.func111, Tryz.ntmps111
        go_wp2
        go_ret
        exact ⟨by rw [HR.out]; rfl, by (repeat (first | (with_reducible apply Below.setCell (hp := ?_)) | (with_reducible apply Below.alloc (hB := ?_)) | (with_reducible exact Below.refl _ _) | (simp; done) | omega))⟩
      · have HR := Lib.hid (show kindL n.kind = [63] by unfold kindL; rw [if_neg h1, if_neg h2, if_neg h3])
        have t3 : (n.kind == 3) = false := beq_eq_false_iff_ne.2 h3
        clear h1 h2 h3
        go_enter Tryz.func111, Tryz.ntmps111
        go_wp2
        go_ret
        exact ⟨by rw [HR.out]; rfl, by (repeat (first | (with_reducible apply Below.setCell (hp := ?_)) | (with_reducible apply Below.alloc (hB := ?_)) | (with_reducible exact Below.refl _ _) | (simp; done) | omega))⟩

set_option maxHeartbeats 1000000 in
theorem last_any (m : Int) (f s : Nat) (x X : UInt8) (w : World) (hf : f ≤ 60) (hs : s ≤ 60) :
    Calls Tryz.prog 114 #[.int .i64 m, .agg #[.int .i64 (f : Int), .int .i64 (s : Int), .string ⟨#[x]⟩, .string ⟨#[X]⟩]] w fun e w' => e = .returned (.string (txt [lastL m f s x X])) ∧ Below w.heap.size w w' := by
  have S1 := Lib.hid (fun w' => pset_any m f w' (by omega))
  have S2 := Lib.hid (fun w' => pset_any m s w' (by omega))
  obtain ⟨p, hp⟩ : ∃ p, bitB m f = p := ⟨_, rfl⟩
  cases hq : bitB m s
  · have HL := Lib.hid (show txt [lastL m f s x X] = if p then ⟨#[120]⟩ else ⟨#[45]⟩ by unfold lastL; rw [hq, hp]; cases p <;> rfl)
    rw [hp] at S1
    rw [hq] at S2
    clear hp hq
    cases p
    all_goals (
      go_enter Tryz.func114, Tryz.ntmps114
      go_wp2_with fail
      refine (S1.out _).mono ?_
      rintro e w' ⟨rfl, rfl⟩
      go_wp2_with fail
      refine (S2.out _).mono ?_
      rintro e w' ⟨rfl, rfl⟩
      go_wp2_with fail
      refine (letter_any _ _ _ _).mono ?_
      rintro e w' ⟨rfl, rfl⟩
      go_wp2_with fail
      go_ret
      exact ⟨by rw [HL.out]; rfl, by (repeat (first | (with_reducible apply Below.setCell (hp := ?_)) | (with_reducible apply Below.alloc (hB := ?_)) | (with_reducible exact Below.refl _ _) | (simp; done) | omega))⟩)
  · have HL := Lib.hid (show txt [lastL m f s x X] = if p then ⟨#[x]⟩ else ⟨#[X]⟩ by unfold lastL; rw [hq, hp]; cases p <;> rfl)
    rw [hp] at S1
    rw [hq] at S2
    clear hp hq
    cases p
    all_goals (
      go_enter Tryz.func114, Tryz.ntmps114
      go_wp2_with fail
      refine (S1.out _).mono ?_
      rintro e w' ⟨rfl, rfl⟩
      go_wp2_with fail
      refine (S2.out _).mono ?_
      rintro e w' ⟨rfl, rfl⟩
      go_wp2_with fail
      refine (letter_any _ _ _ _).mono ?_
      rintro e w' ⟨rfl, rfl⟩
      go_wp2_with fail
      go_ret
      exact ⟨by rw [HL.out]; rfl, by (repeat (first | (with_reducible apply Below.setCell (hp := ?_)) | (with_reducible apply Below.alloc (hB := ?_)) | (with_reducible exact Below.refl _ _) | (simp; done) | omega))⟩)
end Go.Proofs.YtigkdehaepenhaaGreatDoor.P

namespace Go.Proofs.YtigkdehaepenhaaGreatDoor.P
open Go.RowKit

/-- A class's copy, as a block. -/
def copyO (f s : Int) (x X : UInt8) : Obj := .cells #[.int .i64 f, .int .i64 s, .string ⟨#[x]⟩, .string ⟨#[X]⟩] 157
structure Rnd (W0 : World) (b q p0 : Nat) (m f s : Int) (x X : UInt8) (l : List UInt8) (w : World) : Prop where
  bld : Bld W0 b l w
  copy : w.heap[q]? = some (copyO f s x X)
  box : w.cell? ⟨p0, 3, none⟩ = some (.int .i64 m)
theorem Rnd.write {W0 : World} {b q p0 : Nat} {m f s : Int} {x X : UInt8} {l : List UInt8} {w : World} (h : Rnd W0 b q p0 m f s x X l w) (hq : q ≠ b) (hp : p0 < W0.heap.size) (hl : l.length ≤ 100) (t : ByteArray) (ht : t.size ≤ 100) :
    Calls Tryz.prog 46 #[.pointer (some ⟨b, 0, none⟩), .string t] w fun e w' => (∃ v, e = .returned v) ∧ Rnd W0 b q p0 m f s x X (l ++ t.data.toList) w' := by
  refine (h.bld.writeString (by omega) t (by omega)).mono ?_
  rintro e w' ⟨hv, hb, hk⟩
  refine ⟨hv, hb, hk q _ h.copy hq (fun c fz e => by unfold copyO at e; injection e with _ e2; exact absurd e2 (by decide)), ?_⟩
  rw [hb.2.1.cell (p := ⟨p0, 3, none⟩) hp, ← h.bld.2.1.cell (p := ⟨p0, 3, none⟩) hp]
  exact h.box
theorem Rnd.cells {W0 : World} {b q p0 : Nat} {m f s : Int} {x X : UInt8} {l : List UInt8} {w : World} (h : Rnd W0 b q p0 m f s x X l w) :
    w.cell? ⟨q, 0, none⟩ = some (.int .i64 f) ∧ w.cell? ⟨q, 1, none⟩ = some (.int .i64 s) ∧ w.cell? ⟨q, 2, none⟩ = some (.string ⟨#[x]⟩) ∧ w.cell? ⟨q, 3, none⟩ = some (.string ⟨#[X]⟩) ∧ w.cell? ⟨p0, 3, none⟩ = some (.int .i64 m) := by
  have hc := h.copy
  unfold copyO at hc
  refine ⟨?_, ?_, ?_, ?_, h.box⟩ <;> (unfold World.cell?; simp [hc])
def partL (m : Int) (k : Nat) : List UInt8 := match k with
  | 0 => []
  | 1 => clsL m 6 11 115 83
  | 2 => clsL m 6 11 115 83 ++ clsL m 3 10 115 83
  | _ => clsL m 6 11 115 83 ++ clsL m 3 10 115 83 ++ clsL m 0 9 116 84
theorem kindL_len (k : Int) : (kindL k).length = 1 := by unfold kindL; split; rfl; split; rfl; split <;> rfl
theorem clsL_len (m : Int) (f s : Nat) (x X : UInt8) : (clsL m f s x X).length = 3 := rfl
def TRel (W0 : World) (b : Nat) (kd m : Int) (v : Value) (w : World) : Prop := ∃ k : Nat, k ≤ 3 ∧ v = .int .i64 (k : Int) ∧ Bld W0 b (kindL kd ++ partL m k) w
theorem sizeClass : (Tryz.prog.info? 157).map (·.size) = some 4 := by kernel_rfl

set_option maxHeartbeats 2000000 in
theorem text_any (n : Nv) (w : World) (ht : Tab w) :
    Calls Tryz.prog 84 #[nodeV n] w fun e w' => e = .returned (.string (txt (textP n.kind n.mode))) ∧ Below w.heap.size w w' := by
  have HT := Lib.hid ht
  clear ht
  have HK := Lib.hid (kind_any n)
  obtain ⟨kl, hkl⟩ : ∃ kl, kindL n.kind = kl := ⟨_, rfl⟩
  have HKL := Lib.hid (show kl.length = 1 by rw [← hkl]; exact kindL_len _)
  rw [hkl] at HK
  have HR := Lib.hid (show textP n.kind n.mode = kl ++ partL n.mode 3 by unfold textP partL; rw [hkl]; simp)
  unfold nodeV at HK
  unfold nodeV
  obtain ⟨W0, hW0⟩ : ∃ W0, w.alloc (.cells #[.int .i64 n.dev, .int .i64 n.ino, .int .i64 n.kind, .int .i64 n.mode, .int .i64 n.uid, .int .i64 n.gid, .int .i64 n.size, .int .i64 n.blocks, .int .i64 n.links, .int .i64 n.ta, .int .i64 n.tb, .int .i64 n.tc, .string n.target] 62) = W0 := ⟨_, rfl⟩
  have HW := Lib.hid hW0
  have HBW := Lib.hid (show Below w.heap.size w W0 from by rw [← hW0]; (repeat (first | (with_reducible apply Below.setCell (hp := ?_)) | (with_reducible apply Below.alloc (hB := ?_)) | (with_reducible exact Below.refl _ _) | (simp; done) | omega)))
  have hsz : W0.heap.size = w.heap.size + 1 := by rw [← hW0]; simp
  have HC := Lib.hid (show W0.cell? ⟨w.heap.size, 3, none⟩ = some (.int .i64 n.mode) from by rw [← hW0, World.cell?_alloc_at _ _ _ _ rfl]; rfl)
  have HM := Lib.hid (Bld.made W0)
  clear hW0
  go_enter Tryz.func84, Tryz.ntmps84
  go_wp2_with fail
  refine (HK.out _).mono ?_
  rintro e w1 ⟨rfl, hb1⟩
  rw [HW.out] at hb1
  have hm := HM.out.keep hb1
  rw [hsz] at hm
  clear hb1
  have HM1 := Lib.hid hm
  clear hm
  go_wp2_with fail
  refine (HM1.out.writeString (by simp) (txt kl) (by rw [txt_size, HKL.out]; decide)).mono ?_
  rintro e w2 ⟨⟨v2, rfl⟩, hb2, _⟩
  rw [List.nil_append, txt_list] at hb2
  have HB2 := Lib.hid hb2
  clear hb2
  go_wp2_with (refine wpList_load_mid rfl 158 (.global 0) rfl 0 0 rfl classCells _ ((HT.out.keep HBW.out).keep HB2.out.2.1).cell Tryz.underlying158 rfl sizeClasses ?_)
  go_loopw [10] (TRel W0 (w.heap.size + 1) n.kind n.mode) (fun v _ => (3 - intOf v).toNat)
  case atStart => exact ⟨0, by decide, rfl, by rw [hkl]; simpa [partL] using HB2.out⟩
  case round =>
    clear HB2 HM1 HM HK
    obtain ⟨k, hk, rfl, hb⟩ := hrel
    rw [hkl] at hb
    have HB := Lib.hid hb
    have hlt' : w.heap.size + 1 < wr.heap.size := by
      rcases hb.1 with h | h
      · exact h.lt
      · exact h.lt
    have hc : wr.cell? ⟨w.heap.size, 3, none⟩ = some (.int .i64 n.mode) := by rw [hb.2.1.cell (p := ⟨w.heap.size, 3, none⟩) (show w.heap.size < W0.heap.size by omega)]; exact HC.out
    have HKE := Lib.hid hkl
    clear hb hkl
    have hk' : k = 0 ∨ k = 1 ∨ k = 2 ∨ k = 3 := by omega
    clear hk
    rcases hk' with rfl | rfl | rfl | rfl
    · have hi := class0
      have hr : Rnd W0 (w.heap.size + 1) wr.heap.size w.heap.size n.mode 6 11 115 83 (kl ++ partL n.mode 0) (wr.alloc (copyO 6 11 115 83)) :=
        ⟨HB.out.keep (by (repeat (first | (with_reducible apply Below.setCell (hp := ?_)) | (with_reducible apply Below.alloc (hB := ?_)) | (with_reducible exact Below.refl _ _) | (simp; done) | omega))), heap_alloc_new _ _, by rw [World.cell?_alloc_old _ _ _ (by show w.heap.size ≠ wr.heap.size; omega)]; exact hc⟩
      have hlen : (kl ++ partL n.mode 0).length ≤ 20 := by rw [List.length_append, HKL.out]; exact Nat.le_of_ble_eq_true rfl
      have HL := Lib.hid hlen
      clear hlen
      have hlt2 : w.heap.size < wr.heap.size := by omega
      have HR0 := Lib.hid hr
      clear hr
      obtain ⟨y1, e1⟩ : ∃ y : ByteArray, (if bitB n.mode 8 = true then (⟨#[114]⟩ : ByteArray) else ⟨#[45]⟩) = y := ⟨_, rfl⟩
      obtain ⟨y2, e2⟩ : ∃ y : ByteArray, (if bitB n.mode 7 = true then (⟨#[119]⟩ : ByteArray) else ⟨#[45]⟩) = y := ⟨_, rfl⟩
      have HY1 := Lib.hid (show y1.data.toList = [if bitB n.mode 8 then 114 else 45] ∧ y1.size = 1 by rw [← e1]; cases bitB n.mode 8 <;> exact ⟨rfl, rfl⟩)
      have HY2 := Lib.hid (show y2.data.toList = [if bitB n.mode 7 then 119 else 45] ∧ y2.size = 1 by rw [← e2]; cases bitB n.mode 7 <;> exact ⟨rfl, rfl⟩)
      have HE1 := Lib.hid e1
      have HE2 := Lib.hid e2
      clear e1 e2
      go_wp2_with fail
      refine (setAt 8 _ rfl (by decide) _ _).mono ?_
      rintro e w' ⟨rfl, rfl⟩
      go_wp2_with fail
      refine (letter_any _ _ _ _).mono ?_
      rintro e w' ⟨rfl, rfl⟩
      rw [HE1.out]
      go_wp2_with fail
      refine (HR0.out.write (by omega) (by omega) (by have := HL.out; omega) y1 (by rw [HY1.out.2]; decide)).mono ?_
      rintro e w3 ⟨⟨v3, rfl⟩, hr3⟩
      obtain ⟨c0, c1, c2, c3, c4⟩ := hr3.cells
      have HR3 := Lib.hid hr3
      clear hr3
      go_wp2_with fail
      refine (setAt 7 _ rfl (by decide) _ _).mono ?_
      rintro e w' ⟨rfl, rfl⟩
      go_wp2_with fail
      refine (letter_any _ _ _ _).mono ?_
      rintro e w' ⟨rfl, rfl⟩
      rw [HE2.out]
      go_wp2_with fail
      refine (HR3.out.write (by omega) (by omega) (by have := HL.out; rw [List.length_append, HY1.out.1]; simp; simp at this; omega) y2 (by rw [HY2.out.2]; decide)).mono ?_
      rintro e w4 ⟨⟨v4, rfl⟩, hr4⟩
      clear c0 c1 c2 c3 c4
      obtain ⟨c0, c1, c2, c3, c4⟩ := hr4.cells
      have HR4 := Lib.hid hr4
      clear hr4
      go_wp2_with fail
      refine (last_any n.mode 6 11 115 83 _ (by decide) (by decide)).mono ?_
      rintro e w5 ⟨rfl, hb5⟩
      have HB5 := Lib.hid (HR4.out.bld.keep hb5)
      clear hb5 c0 c1 c2 c3 c4
      go_wp2_with fail
      refine (HB5.out.writeString (by have := HL.out; rw [List.length_append, List.length_append, HY1.out.1, HY2.out.1]; simp; simp at this; omega) _ (by rw [txt_size]; simp)).mono ?_
      rintro e w6 ⟨⟨v6, rfl⟩, hb6, _⟩
      have HB6 := Lib.hid hb6
      clear hb6
      go_wp2_with fail
      go_roundw
      case rel =>
        refine ⟨1, by decide, rfl, ?_⟩
        have := HB6.out
        rw [HY1.out.1, HY2.out.1, txt_list, ← HKE.out] at this
        simpa [partL, clsL] using this
      case measure => decide
    · have hi := class1
      have hr : Rnd W0 (w.heap.size + 1) wr.heap.size w.heap.size n.mode 3 10 115 83 (kl ++ partL n.mode 1) (wr.alloc (copyO 3 10 115 83)) :=
        ⟨HB.out.keep (by (repeat (first | (with_reducible apply Below.setCell (hp := ?_)) | (with_reducible apply Below.alloc (hB := ?_)) | (with_reducible exact Below.refl _ _) | (simp; done) | omega))), heap_alloc_new _ _, by rw [World.cell?_alloc_old _ _ _ (by show w.heap.size ≠ wr.heap.size; omega)]; exact hc⟩
      have hlen : (kl ++ partL n.mode 1).length ≤ 20 := by rw [List.length_append, HKL.out]; exact Nat.le_of_ble_eq_true rfl
      have HL := Lib.hid hlen
      clear hlen
      have hlt2 : w.heap.size < wr.heap.size := by omega
      have HR0 := Lib.hid hr
      clear hr
      obtain ⟨y1, e1⟩ : ∃ y : ByteArray, (if bitB n.mode 5 = true then (⟨#[114]⟩ : ByteArray) else ⟨#[45]⟩) = y := ⟨_, rfl⟩
      obtain ⟨y2, e2⟩ : ∃ y : ByteArray, (if bitB n.mode 4 = true then (⟨#[119]⟩ : ByteArray) else ⟨#[45]⟩) = y := ⟨_, rfl⟩
      have HY1 := Lib.hid (show y1.data.toList = [if bitB n.mode 5 then 114 else 45] ∧ y1.size = 1 by rw [← e1]; cases bitB n.mode 5 <;> exact ⟨rfl, rfl⟩)
      have HY2 := Lib.hid (show y2.data.toList = [if bitB n.mode 4 then 119 else 45] ∧ y2.size = 1 by rw [← e2]; cases bitB n.mode 4 <;> exact ⟨rfl, rfl⟩)
      have HE1 := Lib.hid e1
      have HE2 := Lib.hid e2
      clear e1 e2
      go_wp2_with fail
      refine (setAt 5 _ rfl (by decide) _ _).mono ?_
      rintro e w' ⟨rfl, rfl⟩
      go_wp2_with fail
      refine (letter_any _ _ _ _).mono ?_
      rintro e w' ⟨rfl, rfl⟩
      rw [HE1.out]
      go_wp2_with fail
      refine (HR0.out.write (by omega) (by omega) (by have := HL.out; omega) y1 (by rw [HY1.out.2]; decide)).mono ?_
      rintro e w3 ⟨⟨v3, rfl⟩, hr3⟩
      obtain ⟨c0, c1, c2, c3, c4⟩ := hr3.cells
      have HR3 := Lib.hid hr3
      clear hr3
      go_wp2_with fail
      refine (setAt 4 _ rfl (by decide) _ _).mono ?_
      rintro e w' ⟨rfl, rfl⟩
      go_wp2_with fail
      refine (letter_any _ _ _ _).mono ?_
      rintro e w' ⟨rfl, rfl⟩
      rw [HE2.out]
      go_wp2_with fail
      refine (HR3.out.write (by omega) (by omega) (by have := HL.out; rw [List.length_append, HY1.out.1]; simp; simp at this; omega) y2 (by rw [HY2.out.2]; decide)).mono ?_
      rintro e w4 ⟨⟨v4, rfl⟩, hr4⟩
      clear c0 c1 c2 c3 c4
      obtain ⟨c0, c1, c2, c3, c4⟩ := hr4.cells
      have HR4 := Lib.hid hr4
      clear hr4
      go_wp2_with fail
      refine (last_any n.mode 3 10 115 83 _ (by decide) (by decide)).mono ?_
      rintro e w5 ⟨rfl, hb5⟩
      have HB5 := Lib.hid (HR4.out.bld.keep hb5)
      clear hb5 c0 c1 c2 c3 c4
      go_wp2_with fail
      refine (HB5.out.writeString (by have := HL.out; rw [List.length_append, List.length_append, HY1.out.1, HY2.out.1]; simp; simp at this; omega) _ (by rw [txt_size]; simp)).mono ?_
      rintro e w6 ⟨⟨v6, rfl⟩, hb6, _⟩
      have HB6 := Lib.hid hb6
      clear hb6
      go_wp2_with fail
      go_roundw
      case rel =>
        refine ⟨2, by decide, rfl, ?_⟩
        have := HB6.out
        rw [HY1.out.1, HY2.out.1, txt_list, ← HKE.out] at this
        simpa [partL, clsL] using this
      case measure => decide
    · have hi := class2
      have hr : Rnd W0 (w.heap.size + 1) wr.heap.size w.heap.size n.mode 0 9 116 84 (kl ++ partL n.mode 2) (wr.alloc (copyO 0 9 116 84)) :=
        ⟨HB.out.keep (by (repeat (first | (with_reducible apply Below.setCell (hp := ?_)) | (with_reducible apply Below.alloc (hB := ?_)) | (with_reducible exact Below.refl _ _) | (simp; done) | omega))), heap_alloc_new _ _, by rw [World.cell?_alloc_old _ _ _ (by show w.heap.size ≠ wr.heap.size; omega)]; exact hc⟩
      have hlen : (kl ++ partL n.mode 2).length ≤ 20 := by rw [List.length_append, HKL.out]; exact Nat.le_of_ble_eq_true rfl
      have HL := Lib.hid hlen
      clear hlen
      have hlt2 : w.heap.size < wr.heap.size := by omega
      have HR0 := Lib.hid hr
      clear hr
      obtain ⟨y1, e1⟩ : ∃ y : ByteArray, (if bitB n.mode 2 = true then (⟨#[114]⟩ : ByteArray) else ⟨#[45]⟩) = y := ⟨_, rfl⟩
      obtain ⟨y2, e2⟩ : ∃ y : ByteArray, (if bitB n.mode 1 = true then (⟨#[119]⟩ : ByteArray) else ⟨#[45]⟩) = y := ⟨_, rfl⟩
      have HY1 := Lib.hid (show y1.data.toList = [if bitB n.mode 2 then 114 else 45] ∧ y1.size = 1 by rw [← e1]; cases bitB n.mode 2 <;> exact ⟨rfl, rfl⟩)
      have HY2 := Lib.hid (show y2.data.toList = [if bitB n.mode 1 then 119 else 45] ∧ y2.size = 1 by rw [← e2]; cases bitB n.mode 1 <;> exact ⟨rfl, rfl⟩)
      have HE1 := Lib.hid e1
      have HE2 := Lib.hid e2
      clear e1 e2
      go_wp2_with fail
      refine (setAt 2 _ rfl (by decide) _ _).mono ?_
      rintro e w' ⟨rfl, rfl⟩
      go_wp2_with fail
      refine (letter_any _ _ _ _).mono ?_
      rintro e w' ⟨rfl, rfl⟩
      rw [HE1.out]
      go_wp2_with fail
      refine (HR0.out.write (by omega) (by omega) (by have := HL.out; omega) y1 (by rw [HY1.out.2]; decide)).mono ?_
      rintro e w3 ⟨⟨v3, rfl⟩, hr3⟩
      obtain ⟨c0, c1, c2, c3, c4⟩ := hr3.cells
      have HR3 := Lib.hid hr3
      clear hr3
      go_wp2_with fail
      refine (setAt 1 _ rfl (by decide) _ _).mono ?_
      rintro e w' ⟨rfl, rfl⟩
      go_wp2_with fail
      refine (letter_any _ _ _ _).mono ?_
      rintro e w' ⟨rfl, rfl⟩
      rw [HE2.out]
      go_wp2_with fail
      refine (HR3.out.write (by omega) (by omega) (by have := HL.out; rw [List.length_append, HY1.out.1]; simp; simp at this; omega) y2 (by rw [HY2.out.2]; decide)).mono ?_
      rintro e w4 ⟨⟨v4, rfl⟩, hr4⟩
      clear c0 c1 c2 c3 c4
      obtain ⟨c0, c1, c2, c3, c4⟩ := hr4.cells
      have HR4 := Lib.hid hr4
      clear hr4
      go_wp2_with fail
      refine (last_any n.mode 0 9 116 84 _ (by decide) (by decide)).mono ?_
      rintro e w5 ⟨rfl, hb5⟩
      have HB5 := Lib.hid (HR4.out.bld.keep hb5)
      clear hb5 c0 c1 c2 c3 c4
      go_wp2_with fail
      refine (HB5.out.writeString (by have := HL.out; rw [List.length_append, List.length_append, HY1.out.1, HY2.out.1]; simp; simp at this; omega) _ (by rw [txt_size]; simp)).mono ?_
      rintro e w6 ⟨⟨v6, rfl⟩, hb6, _⟩
      have HB6 := Lib.hid hb6
      clear hb6
      go_wp2_with fail
      go_roundw
      case rel =>
        refine ⟨3, by decide, rfl, ?_⟩
        have := HB6.out
        rw [HY1.out.1, HY2.out.1, txt_list, ← HKE.out] at this
        simpa [partL, clsL] using this
      case measure => decide
    · go_wp2_with fail
      refine HB.out.string.mono ?_
      rintro e w3 ⟨rfl, hb3⟩
      go_wp2_with fail
      go_ret
      exact ⟨by rw [HR.out]; rfl, HBW.out.trans (hb3.mono (by omega))⟩
end Go.Proofs.YtigkdehaepenhaaGreatDoor.P

namespace Go.Proofs.YtigkdehaepenhaaGreatDoor.P
open Go.RowKit

theorem div_step (m : Int) (k : Nat) : m / 8 ^ k / 8 = m / 8 ^ (k + 1) := by
  rw [Int.ediv_ediv_of_nonneg (Int.le_of_lt (Int.pow_pos (by decide))), Int.pow_succ]
def DRel (m : Int) (N : Nat) (v i : Value) : Prop := ∃ (k : Nat) (x : Int), k ≤ N ∧ i = .int .i64 (k : Int) ∧ v = .int .i64 x ∧ 0 ≤ x ∧ x ≤ 4095 ∧ Hid (x = m / 8 ^ k)

set_option maxHeartbeats 1000000 in
theorem digit_any (m : Int) (N : Nat) (w : World) (hN : N ≤ 3) (h0 : 0 ≤ m) (h1 : m < 4096) :
    Calls Tryz.prog 87 #[.int .i64 m, .int .i64 (N : Int)] w fun e w' => e = .returned (.int .i64 (m / 8 ^ N % 8)) ∧ w = w' := by
  go_enter Tryz.func87, Tryz.ntmps87
  go_wp2
  go_loop [0, 5] (DRel m N) (fun _ i => N - (intOf i).toNat)
  case atStart => exact ⟨0, m, by omega, rfl, rfl, h0, by omega, Lib.hid (by simp)⟩
  case round =>
    obtain ⟨k, x, hk, rfl, rfl, x0, x1, hx⟩ := hrel
    clear h0 h1
    by_cases hd : k < N
    · have hd' : decide ((k : Int) < (N : Int)) = true := by simpa using hd
      have hx2 : Hid (x / 8 = m / 8 ^ (k + 1)) := Lib.hid (by rw [hx.out, div_step])
      go_wp2
      go_round
      case rel => exact ⟨k + 1, x / 8, by omega, by simp, rfl, by omega, by omega, hx2⟩
      case measure => simp [intOf]; omega
    · have hd' : decide ((k : Int) < (N : Int)) = false := by simpa using hd
      have hk' : k = N := by omega
      have hx2 : Hid (x % 8 = m / 8 ^ N % 8) := Lib.hid (by rw [hx.out, hk'])
      clear hk' hk
      go_wp2
      go_ret
      exact ⟨pret_int hx2.out, rfl⟩
theorem digitAt (N : Nat) (i : Int) (h : i = (N : Int)) (hN : N ≤ 3) (m : Int) (w : World) (h0 : 0 ≤ m) (h1 : m < 4096) :
    Calls Tryz.prog 87 #[.int .i64 m, .int .i64 i] w fun e w' => e = .returned (.int .i64 (m / 8 ^ N % 8)) ∧ w = w' := by subst h; exact digit_any m N w hN h0 h1

theorem bit_digit (m : Int) (N : Nat) (hN : N ≤ 2) : ((m / 8 ^ N % 8 % 2 : Int) == 1) = bitB m (3 * N) := by
  have e : (m / 8 ^ N % 8 % 2 : Int) = m / 2 ^ (3 * N) % 2 := by
    have : N = 0 ∨ N = 1 ∨ N = 2 := by omega
    rcases this with rfl | rfl | rfl <;> simp <;> omega
  rw [e]
  unfold bitB
  by_cases h : m / 2 ^ (3 * N) % 2 = 1
  · rw [decide_eq_true h, h]; rfl
  · rw [decide_eq_false h]; exact beq_eq_false_iff_ne.2 h


theorem may_dec : ∀ a b : Fin 8, mayB (a.val : Int) (b.val : Int) = (decide ((b.val : Int) / 4 ≤ (a.val : Int) / 4) && (decide ((b.val : Int) / 2 % 2 ≤ (a.val : Int) / 2 % 2) && decide ((b.val : Int) % 2 ≤ (a.val : Int) % 2))) := by decide
theorem may_has (s t : Int) (h0 : 0 ≤ s) (h1 : s < 8) (h2 : 0 ≤ t) (h3 : t < 8) : mayB s t = (decide (t / 4 ≤ s / 4) && (decide (t / 2 % 2 ≤ s / 2 % 2) && decide (t % 2 ≤ s % 2))) := by
  have := may_dec ⟨s.toNat, by omega⟩ ⟨t.toNat, by omega⟩
  simp only at this
  rw [Int.toNat_of_nonneg h0, Int.toNat_of_nonneg h2] at this
  exact this
end Go.Proofs.YtigkdehaepenhaaGreatDoor.P

namespace Go.Proofs.YtigkdehaepenhaaGreatDoor.P
open Go.RowKit

theorem seven_dec : ∀ b : Fin 8, mayB 7 (b.val : Int) = true := by decide
theorem six_dec : ∀ b : Fin 8, mayB 6 (b.val : Int) = ((b.val : Int) % 2 == 0) := by decide
theorem may_seven (t : Int) (h2 : 0 ≤ t) (h3 : t < 8) : mayB 7 t = true := by
  have := seven_dec ⟨t.toNat, by omega⟩
  simp only at this
  rw [Int.toNat_of_nonneg h2] at this
  exact this
theorem may_six (t : Int) (h2 : 0 ≤ t) (h3 : t < 8) : mayB 6 t = (t % 2 == 0) := by
  have := six_dec ⟨t.toNat, by omega⟩
  simp only at this
  rw [Int.toNat_of_nonneg h2] at this
  exact this
theorem bit_low {a b : Int} (h : a % 8 = b % 8) (k : Nat) (hk : k ≤ 2) : bitB a k = bitB b k := by
  unfold bitB
  have e : a / 2 ^ k % 2 = b / 2 ^ k % 2 := by
    have : k = 0 ∨ k = 1 ∨ k = 2 := by omega
    rcases this with rfl | rfl | rfl <;> simp <;> omega
  rw [e]
theorem may_low {a b s t : Int} (h : a % 8 = b % 8) (h' : s % 8 = t % 8) : mayB a s = mayB b t := by
  unfold mayB
  rw [bit_low h 0 (by decide), bit_low h 1 (by decide), bit_low h 2 (by decide), bit_low h' 0 (by decide), bit_low h' 1 (by decide), bit_low h' 2 (by decide)]

end Go.Proofs.YtigkdehaepenhaaGreatDoor.P

namespace Go.Proofs.YtigkdehaepenhaaGreatDoor.P
open Go.RowKit

def cellsN (n : Nv) : List Value := [.int .i64 n.dev, .int .i64 n.ino, .int .i64 n.kind, .int .i64 n.mode, .int .i64 n.uid, .int .i64 n.gid, .int .i64 n.size, .int .i64 n.blocks, .int .i64 n.links, .int .i64 n.ta, .int .i64 n.tb, .int .i64 n.tc, .string n.target]
/-- In w the node's box lies at B, and the asker's behind it; nothing of W has changed. -/
structure Boxes (W : World) (B : Nat) (n : Nv) (u g : Int) (w : World) : Prop where
  node : w.rangeAt B 0 (cellsN n)
  cred : w.rangeAt (B + 1) 0 [.int .i64 u, .int .i64 g]
  below : Below W.heap.size W w
theorem range_keep {w w' : World} {b o : Nat} {cs : List Value} (h : w.rangeAt b o cs) (hb : Below w.heap.size w w') : w'.rangeAt b o cs :=
  fun j v hj => by rw [hb.cell (p := ⟨b, o + j, none⟩) (cell_lt (h j v hj))]; exact h j v hj
theorem Boxes.keep {W : World} {B : Nat} {n : Nv} {u g : Int} {w w' : World} (h : Boxes W B n u g w) (hb : Below w.heap.size w w') : Boxes W B n u g w' :=
  ⟨range_keep h.node hb, range_keep h.cred hb, pbelow_two h.below hb⟩
theorem Boxes.drew {W : World} {B : Nat} {n : Nv} {u g : Int} {w : World} (h : Boxes W B n u g w) : Boxes W B n u g w.drew := ⟨h.node, h.cred, h.below.trans ⟨rfl, rfl, rfl, Nat.le_refl _, fun _ _ => rfl⟩⟩
theorem Boxes.cells {W : World} {B : Nat} {n : Nv} {u g : Int} {w : World} (h : Boxes W B n u g w) : w.cell? ⟨B, 0, none⟩ = some (.int .i64 n.dev) ∧ w.cell? ⟨B, 1, none⟩ = some (.int .i64 n.ino) ∧ w.cell? ⟨B, 2, none⟩ = some (.int .i64 n.kind) ∧ w.cell? ⟨B, 3, none⟩ = some (.int .i64 n.mode) ∧ w.cell? ⟨B, 4, none⟩ = some (.int .i64 n.uid) ∧ w.cell? ⟨B, 5, none⟩ = some (.int .i64 n.gid) ∧ w.cell? ⟨B, 6, none⟩ = some (.int .i64 n.size) ∧ w.cell? ⟨B, 7, none⟩ = some (.int .i64 n.blocks) ∧ w.cell? ⟨B, 8, none⟩ = some (.int .i64 n.links) ∧ w.cell? ⟨B, 9, none⟩ = some (.int .i64 n.ta) ∧ w.cell? ⟨B, 10, none⟩ = some (.int .i64 n.tb) ∧ w.cell? ⟨B, 11, none⟩ = some (.int .i64 n.tc) ∧ w.cell? ⟨B, 12, none⟩ = some (.string n.target) ∧ w.cell? ⟨B + 1, 0, none⟩ = some (.int .i64 u) ∧ w.cell? ⟨B + 1, 1, none⟩ = some (.int .i64 g) :=
  ⟨h.node 0 _ rfl, h.node 1 _ rfl, h.node 2 _ rfl, h.node 3 _ rfl, h.node 4 _ rfl, h.node 5 _ rfl, h.node 6 _ rfl, h.node 7 _ rfl, h.node 8 _ rfl, h.node 9 _ rfl, h.node 10 _ rfl, h.node 11 _ rfl, h.node 12 _ rfl, h.cred 0 _ rfl, h.cred 1 _ rfl⟩
theorem boxes_of {W : World} {B : Nat} {n : Nv} {u g : Int} {w : World} (h : w.cell? ⟨B, 0, none⟩ = some (.int .i64 n.dev) ∧ w.cell? ⟨B, 1, none⟩ = some (.int .i64 n.ino) ∧ w.cell? ⟨B, 2, none⟩ = some (.int .i64 n.kind) ∧ w.cell? ⟨B, 3, none⟩ = some (.int .i64 n.mode) ∧ w.cell? ⟨B, 4, none⟩ = some (.int .i64 n.uid) ∧ w.cell? ⟨B, 5, none⟩ = some (.int .i64 n.gid) ∧ w.cell? ⟨B, 6, none⟩ = some (.int .i64 n.size) ∧ w.cell? ⟨B, 7, none⟩ = some (.int .i64 n.blocks) ∧ w.cell? ⟨B, 8, none⟩ = some (.int .i64 n.links) ∧ w.cell? ⟨B, 9, none⟩ = some (.int .i64 n.ta) ∧ w.cell? ⟨B, 10, none⟩ = some (.int .i64 n.tb) ∧ w.cell? ⟨B, 11, none⟩ = some (.int .i64 n.tc) ∧ w.cell? ⟨B, 12, none⟩ = some (.string n.target) ∧ w.cell? ⟨B + 1, 0, none⟩ = some (.int .i64 u) ∧ w.cell? ⟨B + 1, 1, none⟩ = some (.int .i64 g)) (hb : Below W.heap.size W w) : Boxes W B n u g w := by
  obtain ⟨c0, c1, c2, c3, c4, c5, c6, c7, c8, c9, c10, c11, c12, c13, c14⟩ := h
  refine ⟨fun j v hj => ?_, fun j v hj => ?_, hb⟩
  · have hl : j < 13 := (List.getElem?_eq_some_iff.1 hj).1
    match j, hl, hj with
    | 0, _, hj => cases Option.some.inj hj; exact c0
    | 1, _, hj => cases Option.some.inj hj; exact c1
    | 2, _, hj => cases Option.some.inj hj; exact c2
    | 3, _, hj => cases Option.some.inj hj; exact c3
    | 4, _, hj => cases Option.some.inj hj; exact c4
    | 5, _, hj => cases Option.some.inj hj; exact c5
    | 6, _, hj => cases Option.some.inj hj; exact c6
    | 7, _, hj => cases Option.some.inj hj; exact c7
    | 8, _, hj => cases Option.some.inj hj; exact c8
    | 9, _, hj => cases Option.some.inj hj; exact c9
    | 10, _, hj => cases Option.some.inj hj; exact c10
    | 11, _, hj => cases Option.some.inj hj; exact c11
    | 12, _, hj => cases Option.some.inj hj; exact c12
  · have hl : j < 2 := (List.getElem?_eq_some_iff.1 hj).1
    match j, hl, hj with
    | 0, _, hj => cases Option.some.inj hj; exact c13
    | 1, _, hj => cases Option.some.inj hj; exact c14
theorem sizeNodeV (n : Nv) : (Tryz.prog.info? 62).map (·.size) = some (cellsN n).length := by
  rw [show (cellsN n).length = 13 from rfl]
  kernel_rfl
theorem box_step {W : World} {B : Nat} {n : Nv} {u g : Int} {w : World} (k : Boxes W B n u g w) {f : FuncId} {args : Array Value} {v : Value}
    (h : Calls Tryz.prog f args w fun e w' => e = .returned v ∧ Below w.heap.size w w') : Calls Tryz.prog f args w fun e w' => e = .returned v ∧ Boxes W B n u g w' := h.mono fun _ _ ⟨a, b⟩ => ⟨a, k.keep b⟩

/-- The mode cut to its twelve lowest bits. -/
def cutM (n : Nv) : Nv := { n with mode := n.mode % 4096 }
theorem awake_eq : txt (textP 2 1023) = ⟨#[100, 114, 119, 120, 114, 119, 120, 114, 119, 116]⟩ := by decide
end Go.Proofs.YtigkdehaepenhaaGreatDoor.P

namespace Go.Proofs.YtigkdehaepenhaaGreatDoor.P
open Go.RowKit

def markL (k m : Int) : List UInt8 := if k = 2 then [47] else if k = 3 then [64] else if k = 1 ∧ anyB m = true then [42] else []



theorem kindAt1 : ∀ w : World, (Instr.index 120 (.agg #[.string ⟨#[]⟩, .string ⟨#[45]⟩, .string ⟨#[100]⟩, .string ⟨#[108]⟩]) (.int .i64 1)).run Tryz.prog w = .ok (.string ⟨#[45]⟩) w := fun _ => by kernel_rfl
theorem kindAt2 : ∀ w : World, (Instr.index 120 (.agg #[.string ⟨#[]⟩, .string ⟨#[45]⟩, .string ⟨#[100]⟩, .string ⟨#[108]⟩]) (.int .i64 2)).run Tryz.prog w = .ok (.string ⟨#[100]⟩) w := fun _ => by kernel_rfl
theorem kindAt3 : ∀ w : World, (Instr.index 120 (.agg #[.string ⟨#[]⟩, .string ⟨#[45]⟩, .string ⟨#[100]⟩, .string ⟨#[108]⟩]) (.int .i64 3)).run Tryz.prog w = .ok (.string ⟨#[108]⟩) w := fun _ => by kernel_rfl
set_option maxHeartbeats 1000000 in
theorem refKind_any (n : Nv) (w : World) :
    Calls Tryz.prog 86 #[nodeV n] w fun e w' => e = .returned (.string (txt (kindL n.kind))) ∧ Below w.heap.size w w' := by
  unfold nodeV
  by_cases hlo : n.kind < 1
  · have HR := Lib.hid (show kindL n.kind = [63] by unfold kindL; rw [if_neg (by omega), if_neg (by omega), if_neg (by omega)])
    have d1 : decide (n.kind < 1) = true := decide_eq_true hlo
    clear hlo
    go_enter Tryz.func86, Tryz.ntmps86
    go_wp2
    go_ret
    exact ⟨by rw [HR.out]; rfl, by (repeat (first | (with_reducible apply Below.setCell (hp := ?_)) | (with_reducible apply Below.alloc (hB := ?_)) | (with_reducible exact Below.refl _ _) | (simp; done) | omega))⟩
  · have d1 : decide (n.kind < 1) = false := decide_eq_false hlo
    by_cases hhi : 3 < n.kind
    · have HR := Lib.hid (show kindL n.kind = [63] by unfold kindL; rw [if_neg (by omega), if_neg (by omega), if_neg (by omega)])
      have d2 : decide (3 < n.kind) = true := decide_eq_true hhi
      clear hlo hhi
      go_enter Tryz.func86, Tryz.ntmps86
      go_wp2
      go_ret
      exact ⟨by rw [HR.out]; rfl, by (repeat (first | (with_reducible apply Below.setCell (hp := ?_)) | (with_reducible apply Below.alloc (hB := ?_)) | (with_reducible exact Below.refl _ _) | (simp; done) | omega))⟩
    · have hk : n.kind = 1 ∨ n.kind = 2 ∨ n.kind = 3 := by omega
      clear d1 hlo hhi
      obtain ⟨dev, ino, kind, mode, uid, gid, size, blocks, links, ta, tb, tc, target⟩ := n
      dsimp only at hk
      rcases hk with rfl | rfl | rfl <;> (
        dsimp only
        have k1 := kindAt1
        have k2 := kindAt2
        have k3 := kindAt3
        go_enter Tryz.func86, Tryz.ntmps86
        go_wp2
        go_ret
        exact ⟨rfl, by (repeat (first | (with_reducible apply Below.setCell (hp := ?_)) | (with_reducible apply Below.alloc (hB := ?_)) | (with_reducible exact Below.refl _ _) | (simp; done) | omega))⟩)
end Go.Proofs.YtigkdehaepenhaaGreatDoor.P
