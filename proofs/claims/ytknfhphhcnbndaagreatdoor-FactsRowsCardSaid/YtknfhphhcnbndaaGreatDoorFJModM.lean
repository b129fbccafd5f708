/-
  The bits of a number; a node as a value; the table of the classes; what perm's set, letter, searched and bitsFor return. Conditions: the table of classes lies as its text lays it; numbers are int64s.
  What perm's searched returns: may anybody search. Conditions: the table of classes lies as its text lays it.
  What perm's bitsFor and May return. Conditions: the table of classes lies as its text lays it.
  What the listed package-level variables give the walks: the table of classes. Conditions: each fact's own.
  A path's names: what stands between its slashes, by bytes; the library's way, by runes, gives the same. Conditions: none.
  What path.Names and the reference's Names return: a path's names, and whether it begins, and ends, with a slash. Conditions: at most 100000 bytes.
  Where a path leads: the walk over the model's nodes, names ahead of names. Conditions: none.
  Numbers of 64 bits; a node's numbers within their bounds. Conditions: none.
  Plain facts on formats, ahead of stage 5: a format written directive by directive; one behind the other; how long it gets; numbers in two and three digits. Conditions: none.
  What perm's Kind, lastLetter and Text return; a strings.Builder that a call has made itself. Conditions: the table of classes lies as its text lays it.
  What a fact's format tells of a node: directive by directive. Conditions: none.
-/
import Derived.Test.YtknfhphhcnbndaaGreatDoorRows
import Derived.WalkKit
import Derived.WalkSpells
import Derived.WalkLawsBesides
import Derived.Lib.Hide
import Derived.Lib.OthersKept
import Derived.Deep.QuietTactic
import Derived.BigQuiet
import Derived.Deep.WholeRow
import Derived.Deep.MidRow
import Derived.Test.YtknfhphhcnbndaaGreatDoorCards
import Derived.Test.YtknfhphhcnbndaaGreatDoorTie
import Derived.Test.YtknfhphhcnbndaaGreatDoorFVArg
import Derived.Lib.LaidTab
import Derived.ChangeOld
import Derived.Below
import Derived.LaidMore
import Derived.ChangeSame
import Derived.Lay
import Derived.Deep.DeepHandedRow
import Derived.Deep.DeepWitnessRowRef
import Derived.Stop.LaidErr
import Derived.Lib.FieldsP
import Derived.Lib.SpaceUEq
import Derived.Lib.TrimU
import Derived.Test.YtknfhphhcnbndaaGreatDoorShelf
import Derived.OwnWalk
import Derived.Deep.AppendLies
import Derived.Shelf.GgClosure.Gives
import Derived.Test.YtknfhphhcnbndaaGreatDoorFVAsk
import Derived.Lib.ItoaNum
import Derived.Test.YtknfhphhcnbndaaGreatDoorShelfB
import Derived.Shelf.Strings.BuilderK
import Derived.Lib.BufSteps
import Derived.Test.YtknfhphhcnbndaaGreatDoorFJMem
import Derived.Lib.IndexLaws
import Derived.Lib.ItoaLen
import Derived.Test.YtknfhphhcnbndaaGreatDoorFFormat
set_option linter.unusedVariables false
set_option linter.unusedSimpArgs false
namespace Go.Proofs.YtknfhphhcnbndaaGreatDoor.P
open Go.RowKit

/-- The k-th bit of a number, from the lowest one. -/
def bitB (b : Int) (k : Nat) : Bool := decide (b / 2 ^ k % 2 = 1)
theorem and_one (x : Int) : bits .and .i64 x 1 = x % 2 := by
  have h : ((BitVec.ofInt 64 x &&& BitVec.ofInt 64 1).toNat : Int) = x % 2 := by
    rw [BitVec.toNat_and, show (BitVec.ofInt 64 1).toNat = 1 from by decide, Nat.and_one_is_mod, BitVec.toNat_ofInt]
    omega
  have h2 : bits .and .i64 x 1 = IntKind.i64.wrap ((BitVec.ofInt 64 x &&& BitVec.ofInt 64 1).toNat : Int) := rfl
  rw [h2, h]
  have e : x % 2 = 0 ∨ x % 2 = 1 := by omega
  rcases e with e | e <;> rw [e] <;> decide
theorem pret_bool {a b : Bool} (h : a = b) : Ending.returned (.bool a) = .returned (.bool b) := by rw [h]

theorem pset_any (b : Int) (k : Nat) (w : World) (hk : k ≤ 62) :
    Calls Tryz.prog 226 #[.int .i64 b, .int .i64 (k : Int)] w fun e w' => e = .returned (.bool (bitB b k)) ∧ w = w' := by
  have hb : (bits BinOp.and IntKind.i64 (b / 2 ^ k) 1 == 1) = bitB b k := by
    rw [and_one]
    unfold bitB
    by_cases h : b / 2 ^ k % 2 = 1
    · rw [decide_eq_true h, h]; rfl
    · rw [decide_eq_false h]; exact beq_eq_false_iff_ne.2 h
  have HB := Lib.hid hb
  clear hb
  go_enter Tryz.func226, Tryz.ntmps226
  go_wp2
  go_ret
  exact ⟨pret_bool HB.out, rfl⟩
theorem setAt (k : Nat) (i : Int) (h : i = (k : Int)) (hk : k ≤ 62) (b : Int) (w : World) :
    Calls Tryz.prog 226 #[.int .i64 b, .int .i64 i] w fun e w' => e = .returned (.bool (bitB b k)) ∧ w = w' := by subst h; exact pset_any b k w hk

theorem letter_any (b : Bool) (y n : ByteArray) (w : World) :
    Calls Tryz.prog 238 #[.bool b, .string y, .string n] w fun e w' => e = .returned (.string (if b then y else n)) ∧ w = w' := by
  cases b
  · go_enter Tryz.func238, Tryz.ntmps238
    go_wp2
    go_ret
    exact ⟨rfl, rfl⟩
  · go_enter Tryz.func238, Tryz.ntmps238
    go_wp2
    go_ret
    exact ⟨rfl, rfl⟩

/-- A node: its thirteen cells. -/
structure Nv where
  dev : Int
  ino : Int
  kind : Int
  mode : Int
  uid : Int
  gid : Int
  size : Int
  blocks : Int
  links : Int
  ta : Int
  tb : Int
  tc : Int
  target : ByteArray
def nodeV (n : Nv) : Value := .agg #[.int .i64 n.dev, .int .i64 n.ino, .int .i64 n.kind, .int .i64 n.mode, .int .i64 n.uid, .int .i64 n.gid, .int .i64 n.size, .int .i64 n.blocks, .int .i64 n.links, .int .i64 n.ta, .int .i64 n.tb, .int .i64 n.tc, .string n.target]

/-- The table of classes. -/
def classCells : List Value := [.int .i64 6, .int .i64 11, .string ⟨#[115]⟩, .string ⟨#[83]⟩, .int .i64 3, .int .i64 10, .string ⟨#[115]⟩, .string ⟨#[83]⟩, .int .i64 0, .int .i64 9, .string ⟨#[116]⟩, .string ⟨#[84]⟩]
structure Tab (w : World) : Prop where
  cell : w.rangeAt 5 0 classCells
theorem cell_lt {w : World} {a : Addr} {v : Value} (h : w.cell? a = some v) : a.block < w.heap.size := by
  apply Classical.byContradiction
  intro hn
  have : w.heap[a.block]? = none := Array.getElem?_eq_none (by omega)
  unfold World.cell? at h
  simp [this] at h
theorem Tab.keep {w w' : World} (h : Tab w) (hb : Below w.heap.size w w') : Tab w' :=
  ⟨fun j v hj => by rw [hb.cell (p := ⟨5, 0 + j, none⟩) (cell_lt (h.cell j v hj))]; exact h.cell j v hj⟩
theorem sizeClasses : (Tryz.prog.info? 328).map (·.size) = some classCells.length := by kernel_rfl
theorem class0 : ∀ w : World, (Instr.index 328 (.agg classCells.toArray) (.int .i64 0)).run Tryz.prog w = .ok (.agg #[.int .i64 6, .int .i64 11, .string ⟨#[115]⟩, .string ⟨#[83]⟩]) w := fun _ => by kernel_rfl
theorem class1 : ∀ w : World, (Instr.index 328 (.agg classCells.toArray) (.int .i64 1)).run Tryz.prog w = .ok (.agg #[.int .i64 3, .int .i64 10, .string ⟨#[115]⟩, .string ⟨#[83]⟩]) w := fun _ => by kernel_rfl
theorem class2 : ∀ w : World, (Instr.index 328 (.agg classCells.toArray) (.int .i64 2)).run Tryz.prog w = .ok (.agg #[.int .i64 0, .int .i64 9, .string ⟨#[116]⟩, .string ⟨#[84]⟩]) w := fun _ => by kernel_rfl

end Go.Proofs.YtknfhphhcnbndaaGreatDoor.P

namespace Go.Proofs.YtknfhphhcnbndaaGreatDoor.P
open Go.RowKit

end Go.Proofs.YtknfhphhcnbndaaGreatDoor.P

namespace Go.Proofs.YtknfhphhcnbndaaGreatDoor.P
open Go.RowKit

end Go.Proofs.YtknfhphhcnbndaaGreatDoor.P

namespace Go.Proofs.YtknfhphhcnbndaaGreatDoor.G
open Go.ChangeShapes Go.WideShapes Go.ChangeAt Go.RowKit Go.Deep

theorem own : ownKnob Tryz.prog.godebug = none := V.own
theorem laidOut : laidOutB Tryz.prog = true := V.laidOut
def htxt (l : List UInt8) : ByteArray := ⟨l.toArray⟩
theorem gCls : Tryz.prog.globalNamed "domesday/perm.classes" = some 5 := by kernel_rfl
theorem gClsType : (Tryz.prog.globals[5]?).map (·.type) = some 328 := by kernel_rfl
theorem cellsCls : Tryz.prog.cellsOf 327 = 4 := by kernel_rfl
set_option maxRecDepth 100000 in
/-- A class that reads as two numbers and two texts holds them, cell by cell. -/
theorem cls_of {H : Type} {enc : TypeId × Value → H} {w : World} {base : Nat} {sp : Nat → Bool} {held : Bool} {fuel : Nat} {cs : List Value} {f s : Int} {x X : List UInt8} {y : DataW H × List MemPlace}
    (h : DataW.trod enc Tryz.prog w base sp held fuel 327 cs = some y) (hy : y.1 = .agg [.lit (.int .i64 f), .lit (.int .i64 s), .lit (.string x), .lit (.string X)]) :
    cs[0]? = some (.int .i64 f) ∧ cs[1]? = some (.int .i64 s) ∧ cs[2]? = some (.string (htxt x)) ∧ cs[3]? = some (.string (htxt X)) := by
  obtain ⟨ys, n, _, rfl, hl, hyl, hf⟩ := DataW.trod_struct Tryz.underlying327 h
  rw [cellsCls] at hl
  have f0 := hf 0 _ rfl
  have f1 := hf 1 _ rfl
  have f2 := hf 2 _ rfl
  have f3 := hf 3 _ rfl
  clear hf
  match cs, hl, ys, hyl with
  | [c0, c1, c2, c3], _, [y0, y1, y2, y3], _ =>
    simp [V.cellsInt, V.cellsStr] at f0 f1 f2 f3
    obtain ⟨n0, e0, k0, _⟩ := DataW.trod_int Tryz.underlying3 f0
    obtain ⟨n1, e1, k1, _⟩ := DataW.trod_int Tryz.underlying3 f1
    obtain ⟨s2, e2, k2, _⟩ := DataW.trod_string Tryz.underlying9 f2
    obtain ⟨s3, e3, k3, _⟩ := DataW.trod_string Tryz.underlying9 f3
    simp at e0 e1 e2 e3
    simp [k0, k1, k2, k3] at hy
    obtain ⟨h0, h1, h2, h3⟩ := hy
    refine ⟨by rw [e0, h0]; rfl, by rw [e1, h1]; rfl, ?_, ?_⟩
    · rw [e2, ← h2]; cases s2; simp [htxt]
    · rw [e3, ← h3]; cases s3; simp [htxt]

set_option maxRecDepth 100000 in
theorem tab_of {W : World} {x : String × DataW Unit} {l : List (String × DataW Unit)} (h : laidMet Tryz.prog (x :: ("domesday/perm.classes", Rows.laid_domesday_perm_classes) :: l) W) : P.Tab W := by
  obtain ⟨ps, ⟨_, _, _, _, _, _, _, _, _, _, ⟨g', t', cs, fuel, p, q, hg', ht', hvar, hd, _, _⟩, _⟩, _⟩ := h
  obtain rfl := Option.some.inj (gCls.symm.trans hg')
  obtain rfl := Option.some.inj (gClsType.symm.trans ht')
  obtain ⟨xs, m, _, hx, hlen, hxl, ha⟩ := DataW.trod_array Tryz.underlying328 hd
  have a0 := ha 0 (by decide)
  have a1 := ha 1 (by decide)
  have a2 := ha 2 (by decide)
  clear ha
  have hx1 := congrArg Prod.fst hx
  unfold Rows.laid_domesday_perm_classes at hx1
  match xs, hxl with
  | [z0, z1, z2], _ =>
    simp only [List.map_cons, List.map_nil, DataW.agg.injEq, List.cons.injEq, and_true] at hx1
    obtain ⟨k0, k1, k2⟩ := hx1
    rw [cellsCls] at a0 a1 a2
    have c0 := cls_of a0 k0.symm
    have c1 := cls_of a1 k1.symm
    have c2 := cls_of a2 k2.symm
    refine ⟨fun j v hj => ?_⟩
    rw [World.var?_cell gCls hvar (0 + j)]
    simp at c0 c1 c2
    have hl : j < 12 := (List.getElem?_eq_some_iff.1 hj).1
    match j, hl, hj with
    | 0, _, hj => cases Option.some.inj hj; exact c0.1
    | 1, _, hj => cases Option.some.inj hj; exact c0.2.1
    | 2, _, hj => cases Option.some.inj hj; exact c0.2.2.1
    | 3, _, hj => cases Option.some.inj hj; exact c0.2.2.2
    | 4, _, hj => cases Option.some.inj hj; exact c1.1
    | 5, _, hj => cases Option.some.inj hj; exact c1.2.1
    | 6, _, hj => cases Option.some.inj hj; exact c1.2.2.1
    | 7, _, hj => cases Option.some.inj hj; exact c1.2.2.2
    | 8, _, hj => cases Option.some.inj hj; exact c2.1
    | 9, _, hj => cases Option.some.inj hj; exact c2.2.1
    | 10, _, hj => cases Option.some.inj hj; exact c2.2.2.1
    | 11, _, hj => cases Option.some.inj hj; exact c2.2.2.2
end Go.Proofs.YtknfhphhcnbndaaGreatDoor.G

namespace Go.Proofs.YtknfhphhcnbndaaGreatDoor.V

end Go.Proofs.YtknfhphhcnbndaaGreatDoor.V

namespace Go.Proofs.YtknfhphhcnbndaaGreatDoor.V
open Go.RowKit Go.Shelf

def strs (l : List ByteArray) : List Value := l.map Value.string
theorem infoStr : (Tryz.prog.info? 9).map (fun i => (i.zero, i.size, i.bytes)) = some (some (.string ⟨#[]⟩), 1, 16) := by kernel_rfl

end Go.Proofs.YtknfhphhcnbndaaGreatDoor.V

namespace Go.Proofs.YtknfhphhcnbndaaGreatDoor.V
open Go.Proofs.YtknfhphhcnbndaaGreatDoor.P
open Go.RowKit

/-- A node as perm's texts have it. -/
def nvOf (n : Nd) : Nv := ⟨n.dev, n.ino, n.kind, n.mode, n.uid, n.gid, n.size, n.blocks, n.links, n.t0, n.t1, n.t2, n.target⟩
def zeroNv : Nv := ⟨0, 0, 0, 0, 0, 0, 0, 0, 0, 0, 0, 0, ⟨#[]⟩⟩
def nvAt (M : List Nd) (i : Int) : Nv := match atM M i with
  | none => zeroNv
  | some n => nvOf n
theorem nodeV_nv (M : List Nd) (i : Int) : nodeV' M i = nodeV (nvAt M i) := by
  unfold nodeV' nvAt
  cases atM M i <;> rfl
def kindM (M : List Nd) (i : Int) : Int := (nvAt M i).kind
/-- A place: the node, and by which name's entry it was come to. -/
structure Pl where
  id : Int
  dir : Int
  name : ByteArray
theorem known_nv (n : Nv) : nodeV n = .agg #[.int .i64 n.dev, .int .i64 n.ino, .int .i64 n.kind, .int .i64 n.mode, .int .i64 n.uid, .int .i64 n.gid, .int .i64 n.size, .int .i64 n.blocks, .int .i64 n.links, .int .i64 n.ta, .int .i64 n.tb, .int .i64 n.tc, .string n.target] := rfl
end Go.Proofs.YtknfhphhcnbndaaGreatDoor.V

namespace Go.Proofs.YtknfhphhcnbndaaGreatDoor.J

def I64 (x : Int) : Prop := -9223372036854775808 ≤ x ∧ x ≤ 9223372036854775807
theorem i64_small {x : Int} (h : 0 ≤ x) (h2 : x ≤ 9223372036854775807) : I64 x := ⟨by omega, h2⟩
/-- The numbers of a node, as they are told. -/
structure NumJ (n : P.Nv) : Prop where
  size : I64 n.size
  blk : I64 n.blocks
  ta : I64 n.ta
  tb : I64 n.tb
  tc : I64 n.tc
  uid : I64 n.uid
  gid : I64 n.gid
  ino : I64 n.ino
  dev : I64 n.dev
  lnk : I64 n.links
  m0 : 0 ≤ n.mode
  m1 : n.mode < 4096
  kind : n.kind = 1 ∨ n.kind = 2 ∨ n.kind = 3
end Go.Proofs.YtknfhphhcnbndaaGreatDoor.J

namespace Go.Proofs.YtknfhphhcnbndaaGreatDoor.S
open Go.Lib

/-- A format written: 'one' says what a directive writes, or that it is none. -/
def fmtL (one : UInt8 → Option (List UInt8)) : List UInt8 → List UInt8
  | [] => []
  | [c] => [c]
  | c :: e :: r => if c = 37 then (match one e with | some s => s ++ fmtL one r | none => c :: fmtL one (e :: r)) else c :: fmtL one (e :: r)
theorem fmtL_nil (one : UInt8 → Option (List UInt8)) : fmtL one [] = [] := by rw [fmtL]
theorem fmtL_last (one : UInt8 → Option (List UInt8)) (c : UInt8) : fmtL one [c] = [c] := by rw [fmtL]
theorem fmtL_plain (one : UInt8 → Option (List UInt8)) {c : UInt8} (r : List UInt8) (h : c ≠ 37) : fmtL one (c :: r) = c :: fmtL one r := by
  cases r with
  | nil => rw [fmtL_last, fmtL_nil]
  | cons e r => rw [fmtL, if_neg h]
theorem fmtL_told (one : UInt8 → Option (List UInt8)) {e : UInt8} {s : List UInt8} (r : List UInt8) (h : one e = some s) : fmtL one (37 :: e :: r) = s ++ fmtL one r := by
  rw [fmtL, if_pos rfl, h]
theorem fmtL_none (one : UInt8 → Option (List UInt8)) {e : UInt8} (r : List UInt8) (h : one e = none) : fmtL one (37 :: e :: r) = 37 :: fmtL one (e :: r) := by
  rw [fmtL, if_pos rfl, h]
/-- How long it gets. -/
theorem fmtL_length (one : UInt8 → Option (List UInt8)) (m : Nat) (hm : ∀ e s, one e = some s → s.length ≤ m) (h1 : 1 ≤ m) : ∀ (k : Nat) (f : List UInt8), f.length ≤ k → (fmtL one f).length ≤ m * f.length
  | _, [], _ => by rw [fmtL_nil]; simp
  | 0, _ :: _, h => by simp at h
  | k + 1, c :: r, h => by
    have hk : r.length ≤ k := by simpa using h
    have hr := fmtL_length one m hm h1 k r hk
    have e1 : m * (c :: r).length = m * r.length + m := by rw [List.length_cons, Nat.mul_succ]
    by_cases hc : c = 37
    · subst hc
      cases r with
      | nil => rw [fmtL_last]; simpa using h1
      | cons e r =>
        cases ho : one e with
        | none =>
          rw [fmtL_none one _ ho, e1, List.length_cons]
          omega
        | some s =>
          have hs := hm e s ho
          have hr2 := fmtL_length one m hm h1 k r (by simp at hk; omega)
          have e2 : m * (e :: r).length = m * r.length + m := by rw [List.length_cons, Nat.mul_succ]
          rw [fmtL_told one _ ho, e1, List.length_append]
          omega
    · rw [fmtL_plain one _ hc, e1, List.length_cons]
      omega

end Go.Proofs.YtknfhphhcnbndaaGreatDoor.S

namespace Go.Proofs.YtknfhphhcnbndaaGreatDoor.P
open Go.RowKit

/-- A text of a list's bytes. -/
def txt (l : List UInt8) : ByteArray := ⟨l.toArray⟩
theorem txt_size (l : List UInt8) : (txt l).size = l.length := by show l.toArray.size = _; simp
theorem txt_list (l : List UInt8) : (txt l).data.toList = l := by simp [txt]

/-- In w the builder at b, made behind W0, holds l; nothing of W0 has changed. -/
def Bld (W0 : World) (b : Nat) (l : List UInt8) (w : World) : Prop := Lib.IsBuilderF 124 5 W0.heap.size b (Lib.byteCells l) w ∧ Below W0.heap.size W0 w ∧ W0.heap.size ≤ w.heap.size
theorem at_keep {T e : TypeId} {B b : Nat} {p : Value} {bs : List Value} {w w' : World} (h : Lib.BuilderAtF T e B b p bs w) (hb : Below w.heap.size w w') : Lib.BuilderAtF T e B b p bs w' := by
  have hlt := h.lt
  obtain ⟨hB, v, hbk, hown, hne⟩ := h
  refine ⟨hB, v, (hb.block b hlt).trans hbk, ?_, hne⟩
  exact hown.kept (row := none) ⟨hb.os, hb.tape, hb.output, hb.size, fun k hk _ => hb.block k hk⟩ (by cases v.ownBlock <;> simp)
theorem Bld.keep {W0 : World} {b : Nat} {l : List UInt8} {w w' : World} (h : Bld W0 b l w) (hb : Below w.heap.size w w') : Bld W0 b l w' := by
  obtain ⟨h1, h2, h3⟩ := h
  refine ⟨?_, h2.trans (hb.mono h3), Nat.le_trans h3 hb.size⟩
  rcases h1 with h1 | h1
  · exact .inl (at_keep h1 hb)
  · exact .inr (at_keep h1 hb)
theorem Bld.made (W0 : World) : Bld W0 W0.heap.size [] (W0.alloc (.cells #[.pointer none, .slice none 0 0] 124)) := by
  refine ⟨.inl ⟨Nat.le_refl _, .slice none 0 0, ?_, World.ownsRowF_nil _ _ _ _, by simp [Value.ownBlock]⟩, (Below.refl _ _).alloc (Nat.le_refl _) _, by simp⟩
  exact heap_alloc_new _ _
theorem Bld.writeString {W0 : World} {b : Nat} {l : List UInt8} {w : World} (h : Bld W0 b l w) (hl : l.length ≤ 1000000000) (s : ByteArray) (hs : s.size ≤ 1000000000) :
    Calls Tryz.prog 121 #[.pointer (some ⟨b, 0, none⟩), .string s] w fun e w' => (∃ v, e = .returned v) ∧ Bld W0 b (l ++ s.data.toList) w' ∧ ∀ k o, w.heap[k]? = some o → k ≠ b → (∀ c fz, o ≠ .cells c 5 fz) → w'.heap[k]? = some o := by
  obtain ⟨h1, h2, h3⟩ := h
  refine (Any.Builder_WriteString_k Tryz.laysB166 Tryz.Builder_Extra_B W0.heap.size b (Lib.byteCells l) s w h1 (by rw [Lib.byteCells_length]; omega) h3).mono ?_
  rintro e w' ⟨rfl, hA, hb, hk⟩
  refine ⟨⟨_, rfl⟩, ⟨.inr ?_, h2.trans hb, Nat.le_trans h3 hb.size⟩, fun k o h n c => hk k o h (fun e => n (Option.some.inj e)) c⟩
  rw [Lib.byteCells_append]
  exact hA
theorem Bld.string {W0 : World} {b : Nat} {l : List UInt8} {w : World} (h : Bld W0 b l w) :
    Calls Tryz.prog 55 #[.pointer (some ⟨b, 0, none⟩)] w fun e w' => e = .returned (.string (txt l)) ∧ Below W0.heap.size W0 w' := by
  obtain ⟨h1, h2, h3⟩ := h
  refine (Any.Builder_String_any_k Tryz.laysB169 Tryz.Builder_Extra_B W0.heap.size b l w h1 h3).mono ?_
  rintro e w' ⟨rfl, _, hb, _⟩
  exact ⟨rfl, h2.trans hb⟩

def kindL (k : Int) : List UInt8 := if k = 1 then [45] else if k = 2 then [100] else if k = 3 then [108] else [63]
def lastL (m : Int) (f s : Nat) (x X : UInt8) : UInt8 := if bitB m s then (if bitB m f then x else X) else (if bitB m f then 120 else 45)
def clsL (m : Int) (f s : Nat) (x X : UInt8) : List UInt8 := [if bitB m (f + 2) then 114 else 45, if bitB m (f + 1) then 119 else 45, lastL m f s x X]
def textP (k m : Int) : List UInt8 := kindL k ++ clsL m 6 11 115 83 ++ clsL m 3 10 115 83 ++ clsL m 0 9 116 84

set_option maxHeartbeats 1000000 in
theorem kind_any (n : Nv) (w : World) :
    Calls Tryz.prog 237 #[nodeV n] w fun e w' => e = .returned (.string (txt (kindL n.kind))) ∧ Below w.heap.size w w' := by
  unfold nodeV
  by_cases h1 : n.kind = 1
  · have HR := Lib.hid (show kindL n.kind = [45] by unfold kindL; rw [if_pos h1])
    have t1 : (n.kind == 1) = true := beq_iff_eq.2 h1
    clear h1
    go_enter Tryz.func237, Tryz.ntmps237
    go_wp2
    go_ret
    exact ⟨by rw [HR.out]; rfl, by (repeat (first | (with_reducible apply Below.setCell (hp := ?_)) | (with_reducible apply Below.alloc (hB := ?_)) | (with_reducible exact Below.refl _ _) | (simp; done) | omega))⟩
  · have t1 : (n.kind == 1) = false := beq_eq_false_iff_ne.2 h1
    by_cases h2 : n.kind = 2
    · have HR := Lib.hid (show kindL n.kind = [100] by unfold kindL; rw [if_neg h1, if_pos h2])
      have t2 : (n.kind == 2) = true := beq_iff_eq.2 h2
      clear h1 h2
      go_enter Tryz.func237, Tryz.ntmps237
      go_wp2
      go_ret
      exact ⟨by rw [HR.out]; rfl, by (repeat (first | (with_reducible apply Below.setCell (hp := ?_)) | (with_reducible apply Below.alloc (hB := ?_)) | (with_reducible exact Below.refl _ _) | (simp; done) | omega))⟩
    · have t2 : (n.kind == 2) = false := beq_eq_false_iff_ne.2 h2
      by_cases h3 : n.kind = 3
      · have HR := Lib.hid (show kindL n.kind = [108] by unfold kindL; rw [if_neg h1, if_neg h2, if_pos h3])
        have t3 : (n.kind == 3) = true := beq_iff_eq.2 h3
        clear h1 h2 h3
        go_enter Tryz.func237, Tryz.ntmps237
        go_wp2
        go_ret
        exact ⟨by rw [HR.out]; rfl, by (repeat (first | (with_reducible apply Below.setCell (hp := ?_)) | (with_reducible apply Below.alloc (hB := ?_)) | (with_reducible exact Below.refl _ _) | (simp; done) | omega))⟩
      · have HR := Lib.hid (show kindL n.kind = [63] by unfold kindL; rw [if_neg h1, if_neg h2, if_neg h3])
        have t3 : (n.kind == 3) = false := beq_eq_false_iff_ne.2 h3
        clear h1 h2 h3
        go_enter Tryz.func237, Tryz.ntmps237
        go_wp2
        go_ret
        exact ⟨by rw [HR.out]; rfl, by (repeat (first | (with_reducible apply Below.setCell (hp := ?_)) | (with_reducible apply Below.alloc (hB := ?_)) | (with_reducible exact Below.refl _ _) | (simp; done) | omega))⟩

set_option maxHeartbeats 1000000 in
theorem last_any (m : Int) (f s : Nat) (x X : UInt8) (w : World) (hf : f ≤ 60) (hs : s ≤ 60) :
    Calls Tryz.prog 239 #[.int .i64 m, .agg #[.int .i64 (f : Int), .int .i64 (s : Int), .string ⟨#[x]⟩, .string ⟨#[X]⟩]] w fun e w' => e = .returned (.string (txt [lastL m f s x X])) ∧ Below w.heap.size w w' := by
  have S1 := Lib.hid (fun w' => pset_any m f w' (by omega))
  have S2 := Lib.hid (fun w' => pset_any m s w' (by omega))
  obtain ⟨p, hp⟩ : ∃ p, bitB m f = p := ⟨_, rfl⟩
  cases hq : bitB m s
  · have HL := Lib.hid (show txt [lastL m f s x X] = if p then ⟨#[120]⟩ else ⟨#[45]⟩ by unfold lastL; rw [hq, hp]; cases p <;> rfl)
    rw [hp] at S1
    rw [hq] at S2
    clear hp hq
    cases p
    all_goals (
      go_enter Tryz.func239, Tryz.ntmps239
      go_wp2_with fail
      refine (S1.out _).mono ?_
      rintro e w' ⟨rfl, rfl⟩
      go_wp2_with fail
      refine (S2.out _).mono ?_
      rintro e w' ⟨rfl, rfl⟩
      go_wp2_with fail
      refine (letter_any _ _ _ _).mono ?_
      rintro e w' ⟨rfl, rfl⟩
      go_wp2_with fail
      go_ret
      exact ⟨by rw [HL.out]; rfl, by (repeat (first | (with_reducible apply Below.setCell (hp := ?_)) | (with_reducible apply Below.alloc (hB := ?_)) | (with_reducible exact Below.refl _ _) | (simp; done) | omega))⟩)
  · have HL := Lib.hid (show txt [lastL m f s x X] = if p then ⟨#[x]⟩ else ⟨#[X]⟩ by unfold lastL; rw [hq, hp]; cases p <;> rfl)
    rw [hp] at S1
    rw [hq] at S2
    clear hp hq
    cases p
    all_goals (
      go_enter Tryz.func239, Tryz.ntmps239
      go_wp2_with fail
      refine (S1.out _).mono ?_
      rintro e w' ⟨rfl, rfl⟩
      go_wp2_with fail
      refine (S2.out _).mono ?_
      rintro e w' ⟨rfl, rfl⟩
      go_wp2_with fail
      refine (letter_any _ _ _ _).mono ?_
      rintro e w' ⟨rfl, rfl⟩
      go_wp2_with fail
      go_ret
      exact ⟨by rw [HL.out]; rfl, by (repeat (first | (with_reducible apply Below.setCell (hp := ?_)) | (with_reducible apply Below.alloc (hB := ?_)) | (with_reducible exact Below.refl _ _) | (simp; done) | omega))⟩)
end Go.Proofs.YtknfhphhcnbndaaGreatDoor.P

namespace Go.Proofs.YtknfhphhcnbndaaGreatDoor.J
open Go.Proofs.YtknfhphhcnbndaaGreatDoor.B

abbrev By := List UInt8
def dirW : By := [100, 105, 114, 101, 99, 116, 111, 114, 121]
def lnkW : By := [115, 121, 109, 98, 111, 108, 105, 99, 32, 108, 105, 110, 107]
def emptyW : By := [114, 101, 103, 117, 108, 97, 114, 32, 101, 109, 112, 116, 121, 32, 102, 105, 108, 101]
def fileW : By := [114, 101, 103, 117, 108, 97, 114, 32, 102, 105, 108, 101]
/-- What a node is, in words. -/
def whatL (n : P.Nv) : By := if n.kind = 2 then dirW else if n.kind = 3 then lnkW else if n.size = 0 then emptyW else fileW
def octL (m : Int) : By := N.digB (8 : Int).toNat m.toNat
/-- What a directive tells. -/
def oneJ (n : P.Nv) (nm qt : By) (c : UInt8) : Option By :=
  if c = 110 then some nm
  else if c = 78 then some qt
  else if c = 115 then some (Lib.itoa n.size)
  else if c = 98 then some (Lib.itoa n.blocks)
  else if c = 97 then some (octL n.mode)
  else if c = 65 then some (P.textP n.kind n.mode)
  else if c = 117 then some (Lib.itoa n.uid)
  else if c = 103 then some (Lib.itoa n.gid)
  else if c = 105 then some (Lib.itoa n.ino)
  else if c = 100 then some (Lib.itoa n.dev)
  else if c = 104 then some (Lib.itoa n.links)
  else if c = 70 then some (whatL n)
  else if c = 88 then some (Lib.itoa n.ta)
  else if c = 89 then some (Lib.itoa n.tb)
  else if c = 90 then some (Lib.itoa n.tc)
  else if c = 37 then some [37]
  else none
def txt (l : By) : ByteArray := ⟨l.toArray⟩
theorem txt_size (l : By) : (txt l).size = l.length := by show l.toArray.size = _; simp
theorem txt_list (l : By) : (txt l).data.toList = l := by simp [txt]
theorem txt_of (s : ByteArray) : txt s.data.toList = s := by cases s; rfl
theorem itoa_len {n : Int} (h : I64 n) : (Lib.itoa n).length ≤ 21 := Lib.itoa_length_le n h.1 h.2
theorem what_len (n : P.Nv) : (whatL n).length ≤ 18 := by
  unfold whatL
  repeat' split
  all_goals decide
theorem textP_len (k m : Int) : (P.textP k m).length ≤ 10 := by
  unfold P.textP P.kindL P.clsL
  repeat' split
  all_goals simp
theorem oct_len {m : Int} (h0 : 0 ≤ m) (h1 : m < 4096) : (octL m).length ≤ 64 := N.digB_size 8 m (by decide) (by omega)
theorem oneJ_len {n : P.Nv} (h : NumJ n) {nm qt : By} {K : Nat} (h1 : nm.length ≤ K) (h2 : qt.length ≤ K) (h3 : 64 ≤ K) (c : UInt8) (s : By) (hs : oneJ n nm qt c = some s) : s.length ≤ K := by
  unfold oneJ at hs
  have a1 := itoa_len h.size
  have a2 := itoa_len h.blk
  have a3 := itoa_len h.uid
  have a4 := itoa_len h.gid
  have a5 := itoa_len h.ino
  have a6 := itoa_len h.dev
  have a7 := itoa_len h.lnk
  have a8 := itoa_len h.ta
  have a9 := itoa_len h.tb
  have b1 := itoa_len h.tc
  have b2 := what_len n
  have b3 := textP_len n.kind n.mode
  have b4 := oct_len h.m0 h.m1
  by_cases e110 : c = 110
  · rw [if_pos e110] at hs
    obtain rfl := Option.some.inj hs
    omega
  rw [if_neg e110] at hs
  by_cases e78 : c = 78
  · rw [if_pos e78] at hs
    obtain rfl := Option.some.inj hs
    omega
  rw [if_neg e78] at hs
  by_cases e115 : c = 115
  · rw [if_pos e115] at hs
    obtain rfl := Option.some.inj hs
    omega
  rw [if_neg e115] at hs
  by_cases e98 : c = 98
  · rw [if_pos e98] at hs
    obtain rfl := Option.some.inj hs
    omega
  rw [if_neg e98] at hs
  by_cases e97 : c = 97
  · rw [if_pos e97] at hs
    obtain rfl := Option.some.inj hs
    omega
  rw [if_neg e97] at hs
  by_cases e65 : c = 65
  · rw [if_pos e65] at hs
    obtain rfl := Option.some.inj hs
    omega
  rw [if_neg e65] at hs
  by_cases e117 : c = 117
  · rw [if_pos e117] at hs
    obtain rfl := Option.some.inj hs
    omega
  rw [if_neg e117] at hs
  by_cases e103 : c = 103
  · rw [if_pos e103] at hs
    obtain rfl := Option.some.inj hs
    omega
  rw [if_neg e103] at hs
  by_cases e105 : c = 105
  · rw [if_pos e105] at hs
    obtain rfl := Option.some.inj hs
    omega
  rw [if_neg e105] at hs
  by_cases e100 : c = 100
  · rw [if_pos e100] at hs
    obtain rfl := Option.some.inj hs
    omega
  rw [if_neg e100] at hs
  by_cases e104 : c = 104
  · rw [if_pos e104] at hs
    obtain rfl := Option.some.inj hs
    omega
  rw [if_neg e104] at hs
  by_cases e70 : c = 70
  · rw [if_pos e70] at hs
    obtain rfl := Option.some.inj hs
    omega
  rw [if_neg e70] at hs
  by_cases e88 : c = 88
  · rw [if_pos e88] at hs
    obtain rfl := Option.some.inj hs
    omega
  rw [if_neg e88] at hs
  by_cases e89 : c = 89
  · rw [if_pos e89] at hs
    obtain rfl := Option.some.inj hs
    omega
  rw [if_neg e89] at hs
  by_cases e90 : c = 90
  · rw [if_pos e90] at hs
    obtain rfl := Option.some.inj hs
    omega
  rw [if_neg e90] at hs
  by_cases e37 : c = 37
  · rw [if_pos e37] at hs
    obtain rfl := Option.some.inj hs
    show 1 ≤ K; omega
  rw [if_neg e37] at hs
  cases hs
def arrow : ByteArray := ⟨#[32, 45, 62, 32]⟩
/-- A node's name in quotes, and a link's text. -/
def quotB (qf : ByteArray → ByteArray) (k : Int) (s t : ByteArray) : ByteArray := if k = 3 then qf s ++ (arrow ++ qf t) else qf s
/-- What a format tells. -/
def fmtJ (n : P.Nv) (nm qt : By) (l : By) : By := S.fmtL (oneJ n nm qt) l
theorem oneJ_pct (n : P.Nv) (nm qt : By) : oneJ n nm qt 37 = some [37] := rfl
theorem fmtJ_pair (n : P.Nv) (nm qt : By) (e : UInt8) (r : By) : fmtJ n nm qt (37 :: e :: r) = (oneJ n nm qt e).getD [37, e] ++ fmtJ n nm qt r := by
  unfold fmtJ
  cases h : oneJ n nm qt e with
  | some s => rw [S.fmtL_told _ _ h]; rfl
  | none =>
    rw [S.fmtL_none _ _ h, S.fmtL_plain]
    · rfl
    · intro hc
      subst hc
      rw [oneJ_pct] at h
      cases h
theorem fmtJ_len {n : P.Nv} (h : NumJ n) {nm qt : By} {K : Nat} (h1 : nm.length ≤ K) (h2 : qt.length ≤ K) (h3 : 64 ≤ K) (l : By) : (fmtJ n nm qt l).length ≤ K * l.length :=
  S.fmtL_length _ K (fun c s hs => oneJ_len h h1 h2 h3 c s hs) (by omega) l.length l (Nat.le_refl _)
/-- Bytes without a % stay as they are. -/
theorem fmtJ_plain (n : P.Nv) (nm qt : By) : ∀ (a r : By), (∀ c ∈ a, c ≠ 37) → fmtJ n nm qt (a ++ r) = a ++ fmtJ n nm qt r
  | [], r, _ => rfl
  | c :: a, r, h => by
    have ih := fmtJ_plain n nm qt a r fun x hx => h x (List.mem_cons_of_mem _ hx)
    unfold fmtJ at ih ⊢
    rw [List.cons_append, S.fmtL_plain _ _ (h c List.mem_cons_self), ih]
    rfl
theorem fmtJ_none (n : P.Nv) (nm qt : By) (a : By) (h : ∀ c ∈ a, c ≠ 37) : fmtJ n nm qt a = a := by
  have := fmtJ_plain n nm qt a [] h
  rw [List.append_nil] at this
  rw [this]
  show a ++ S.fmtL _ [] = a
  rw [S.fmtL_nil, List.append_nil]
/-- A % alone at the end stays as it is. -/
theorem fmtJ_end (n : P.Nv) (nm qt : By) (a : By) (h : ∀ c ∈ a, c ≠ 37) : fmtJ n nm qt (a ++ [37]) = a ++ [37] := by
  rw [fmtJ_plain n nm qt a _ h]
  show a ++ S.fmtL _ [37] = _
  rw [S.fmtL_last]
theorem fmtJ_no {n : P.Nv} {nm qt l : By} (h : Lib.indexByte l 37 = -1) : fmtJ n nm qt l = l := fmtJ_none n nm qt l fun c hc e => by
  obtain ⟨k, hk⟩ := List.mem_iff_getElem?.1 hc
  exact Lib.indexByte_none h k (by rw [hk, e])
theorem at_split {l : By} {i : Nat} (h : Lib.indexByte l 37 = (i : Int)) : i < l.length ∧ (∀ c ∈ l.take i, c ≠ 37) ∧ l.drop i = 37 :: l.drop (i + 1) := by
  obtain ⟨h1, h2⟩ := Lib.indexByte_some h
  obtain ⟨hi, he⟩ := List.getElem?_eq_some_iff.1 h1
  refine ⟨hi, fun c hc e => ?_, by rw [List.drop_eq_getElem_cons hi, he]⟩
  obtain ⟨k, hk⟩ := List.mem_iff_getElem?.1 hc
  rw [List.getElem?_take] at hk
  split at hk
  · exact h2 k (by assumption) (by rw [hk, e])
  · cases hk
theorem fmtJ_last {n : P.Nv} {nm qt l : By} {i : Nat} (h : Lib.indexByte l 37 = (i : Int)) (hl : i + 1 = l.length) : fmtJ n nm qt l = l := by
  obtain ⟨_, h2, h3⟩ := at_split h
  have e : l = l.take i ++ [37] := by
    conv => lhs; rw [← List.take_append_drop i l, h3]
    rw [List.drop_of_length_le (by omega)]
  rw [e]
  exact fmtJ_end n nm qt _ h2
theorem fmtJ_step {n : P.Nv} {nm qt l : By} {i : Nat} {c : UInt8} (h : Lib.indexByte l 37 = (i : Int)) (hc : l[i + 1]? = some c) : fmtJ n nm qt l = l.take i ++ ((oneJ n nm qt c).getD [37, c] ++ fmtJ n nm qt (l.drop (i + 2))) := by
  obtain ⟨_, h2, h3⟩ := at_split h
  obtain ⟨hi, he⟩ := List.getElem?_eq_some_iff.1 hc
  have e : l.drop (i + 1) = c :: l.drop (i + 2) := by rw [List.drop_eq_getElem_cons hi, he]
  conv => lhs; rw [← List.take_append_drop i l, h3, e]
  rw [fmtJ_plain n nm qt _ _ h2, fmtJ_pair]
end Go.Proofs.YtknfhphhcnbndaaGreatDoor.J
