/-
  The bits of a number; a node as a value; the table of the classes; what perm's set, letter, searched and bitsFor return. Conditions: the table of classes lies as its text lays it; numbers are int64s.
  What perm's searched returns: may anybody search. Conditions: the table of classes lies as its text lays it.
  What perm's bitsFor and May return. Conditions: the table of classes lies as its text lays it.
  What the listed package-level variables give the walks: the table of classes. Conditions: each fact's own.
  What path.Names and the reference's Names return: a path's names, and whether it begins, and ends, with a slash. Conditions: at most 100000 bytes.
  Where a path leads: the walk over the model's nodes, names ahead of names. Conditions: none.
  Numbers of 64 bits; a node's numbers within their bounds. Conditions: none.
  What perm's Kind, lastLetter and Text return; a strings.Builder that a call has made itself. Conditions: the table of classes lies as its text lays it.
-/
import Derived.Test.YtigkdehaepenhaaGreatDoorRows
import Derived.WalkKit
import Derived.WalkSpells
import Derived.WalkLawsBesides
import Derived.Lib.Hide
import Derived.Lib.OthersKept
import Derived.Deep.QuietTactic
import Derived.BigQuiet
import Derived.Deep.WholeRow
import Derived.Deep.MidRow
import Derived.Test.YtigkdehaepenhaaGreatDoorCards
import Derived.Test.YtigkdehaepenhaaGreatDoorTie
import Derived.Test.YtigkdehaepenhaaGreatDoorKVArg
import Derived.Lib.LaidTab
import Derived.ChangeOld
import Derived.Below
import Derived.LaidMore
import Derived.ChangeSame
import Derived.Lay
import Derived.Deep.DeepHandedRow
import Derived.Deep.DeepWitnessRowRef
import Derived.Stop.LaidErr
import Derived.Test.YtigkdehaepenhaaGreatDoorKHNamesM
import Derived.Test.YtigkdehaepenhaaGreatDoorShelf
import Derived.OwnWalk
import Derived.Deep.AppendLies
import Derived.Test.YtigkdehaepenhaaGreatDoorKVAsk
import Derived.Test.YtigkdehaepenhaaGreatDoorShelfB
import Derived.Shelf.Strings.BuilderK
import Derived.Lib.BufSteps
set_option linter.unusedVariables false
set_option linter.unusedSimpArgs false
namespace Go.Proofs.YtigkdehaepenhaaGreatDoor.P
open Go.RowKit

/-- The k-th bit of a number, from the lowest one. -/
def bitB (b : Int) (k : Nat) : Bool := decide (b / 2 ^ k % 2 = 1)
theorem and_one (x : Int) : bits .and .i64 x 1 = x % 2 := by
  have h : ((BitVec.ofInt 64 x &&& BitVec.ofInt 64 1).toNat : Int) = x % 2 := by
    rw [BitVec.toNat_and, show (BitVec.ofInt 64 1).toNat = 1 from by decide, Nat.and_one_is_mod, BitVec.toNat_ofInt]
    omega
  have h2 : bits .and .i64 x 1 = IntKind.i64.wrap ((BitVec.ofInt 64 x &&& BitVec.ofInt 64 1).toNat : Int) := rfl
  rw [h2, h]
  have e : x % 2 = 0 ∨ x % 2 = 1 := by omega
  rcases e with e | e <;> rw [e] <;> decide
theorem pret_bool {a b : Bool} (h : a = b) : Ending.returned (.bool a) = .returned (.bool b) := by rw [h]

theorem pset_any (b : Int) (k : Nat) (w : World) (hk : k ≤ 62) :
    Calls Tryz.prog 113 #[.int .i64 b, .int .i64 (k : Int)] w fun e w' => e = .returned (.bool (bitB b k)) ∧ w = w' := by
  have hb : (bits BinOp.and IntKind.i64 (b / 2 ^ k) 1 == 1) = bitB b k := by
    rw [and_one]
    unfold bitB
    by_cases h : b / 2 ^ k % 2 = 1
    · rw [decide_eq_true h, h]; rfl
    · rw [decide_eq_false h]; exact beq_eq_false_iff_ne.2 h
  have HB := Lib.hid hb
  clear hb
  go_enter Tryz.func113, Tryz.ntmps113
  go_wp2
  go_ret
  exact ⟨pret_bool HB.out, rfl⟩
theorem setAt (k : Nat) (i : Int) (h : i = (k : Int)) (hk : k ≤ 62) (b : Int) (w : World) :
    Calls Tryz.prog 113 #[.int .i64 b, .int .i64 i] w fun e w' => e = .returned (.bool (bitB b k)) ∧ w = w' := by subst h; exact pset_any b k w hk

theorem letter_any (b : Bool) (y n : ByteArray) (w : World) :
    Calls Tryz.prog 112 #[.bool b, .string y, .string n] w fun e w' => e = .returned (.string (if b then y else n)) ∧ w = w' := by
  cases b
  · go_enter Tryz.func112, Tryz.ntmps112
    go_wp2
    go_ret
    exact ⟨rfl, rfl⟩
  · go_enter Tryz.func112, Tryz.ntmps112
    go_wp2
    go_ret
    exact ⟨rfl, rfl⟩

/-- A node: its thirteen cells. -/
structure Nv where
  dev : Int
  ino : Int
  kind : Int
  mode : Int
  uid : Int
  gid : Int
  size : Int
  blocks : Int
  links : Int
  ta : Int
  tb : Int
  tc : Int
  target : ByteArray
def nodeV (n : Nv) : Value := .agg #[.int .i64 n.dev, .int .i64 n.ino, .int .i64 n.kind, .int .i64 n.mode, .int .i64 n.uid, .int .i64 n.gid, .int .i64 n.size, .int .i64 n.blocks, .int .i64 n.links, .int .i64 n.ta, .int .i64 n.tb, .int .i64 n.tc, .string n.target]

/-- The table of classes. -/
def classCells : List Value := [.int .i64 6, .int .i64 11, .string ⟨#[115]⟩, .string ⟨#[83]⟩, .int .i64 3, .int .i64 10, .string ⟨#[115]⟩, .string ⟨#[83]⟩, .int .i64 0, .int .i64 9, .string ⟨#[116]⟩, .string ⟨#[84]⟩]
structure Tab (w : World) : Prop where
  cell : w.rangeAt 0 0 classCells
theorem cell_lt {w : World} {a : Addr} {v : Value} (h : w.cell? a = some v) : a.block < w.heap.size := by
  apply Classical.byContradiction
  intro hn
  have : w.heap[a.block]? = none := Array.getElem?_eq_none (by omega)
  unfold World.cell? at h
  simp [this] at h
theorem Tab.keep {w w' : World} (h : Tab w) (hb : Below w.heap.size w w') : Tab w' :=
  ⟨fun j v hj => by rw [hb.cell (p := ⟨0, 0 + j, none⟩) (cell_lt (h.cell j v hj))]; exact h.cell j v hj⟩
theorem pbelow_two {w a b : World} (h : Below w.heap.size w a) (k : Below a.heap.size a b) : Below w.heap.size w b := h.trans (k.mono h.size)
theorem sizeClasses : (Tryz.prog.info? 158).map (·.size) = some classCells.length := by kernel_rfl
theorem class0 : ∀ w : World, (Instr.index 158 (.agg classCells.toArray) (.int .i64 0)).run Tryz.prog w = .ok (.agg #[.int .i64 6, .int .i64 11, .string ⟨#[115]⟩, .string ⟨#[83]⟩]) w := fun _ => by kernel_rfl
theorem class1 : ∀ w : World, (Instr.index 158 (.agg classCells.toArray) (.int .i64 1)).run Tryz.prog w = .ok (.agg #[.int .i64 3, .int .i64 10, .string ⟨#[115]⟩, .string ⟨#[83]⟩]) w := fun _ => by kernel_rfl
theorem class2 : ∀ w : World, (Instr.index 158 (.agg classCells.toArray) (.int .i64 2)).run Tryz.prog w = .ok (.agg #[.int .i64 0, .int .i64 9, .string ⟨#[116]⟩, .string ⟨#[84]⟩]) w := fun _ => by kernel_rfl

def anyB (m : Int) : Bool := bitB m 6 || bitB m 3 || bitB m 0
end Go.Proofs.YtigkdehaepenhaaGreatDoor.P

namespace Go.Proofs.YtigkdehaepenhaaGreatDoor.P
open Go.RowKit

/-- Before round k: nobody of the first k classes searches; the table and the box are as they were. -/
def SRel (W : World) (b : Nat) (m : Int) (v : Value) (w : World) : Prop :=
  ∃ k : Nat, k ≤ 3 ∧ v = .int .i64 (k : Int) ∧ Hid ((0 < k → bitB m 6 = false) ∧ (1 < k → bitB m 3 = false) ∧ (2 < k → bitB m 0 = false)) ∧ Below W.heap.size W w ∧ w.cell? ⟨b, 3, none⟩ = some (.int .i64 m)

end Go.Proofs.YtigkdehaepenhaaGreatDoor.P

namespace Go.Proofs.YtigkdehaepenhaaGreatDoor.P
open Go.RowKit

def credV (u g : Int) : Value := .agg #[.int .i64 u, .int .i64 g]
def bitsP (n : Nv) (u g : Int) : Int := if u = 0 then (if n.kind = 2 ∨ anyB n.mode = true then 7 else 6) else if u = n.uid then n.mode / 2 ^ 6 else if g = n.gid then n.mode / 2 ^ 3 else n.mode 
theorem pret_int {k : IntKind} {a b : Int} (h : a = b) : Ending.returned (.int k a) = .returned (.int k b) := by rw [h]


def mayB (b want : Int) : Bool := (!bitB want 2 || bitB b 2) && (!bitB want 1 || bitB b 1) && (!bitB want 0 || bitB b 0)
/-- Before the round for bit a: all that is wanted of the bits above it is there. -/
def MRel (W : World) (b want : Int) (v : Value) (w : World) : Prop :=
  ∃ a : Int, -1 ≤ a ∧ a ≤ 2 ∧ v = .int .i64 a ∧ Hid ((a < 2 → (!bitB want 2 || bitB b 2) = true) ∧ (a < 1 → (!bitB want 1 || bitB b 1) = true) ∧ (a < 0 → (!bitB want 0 || bitB b 0) = true)) ∧ Below W.heap.size W w

end Go.Proofs.YtigkdehaepenhaaGreatDoor.P

namespace Go.Proofs.YtigkdehaepenhaaGreatDoor.G
open Go.ChangeShapes Go.WideShapes Go.ChangeAt Go.RowKit Go.Deep

theorem own : ownKnob Tryz.prog.godebug = none := V.own
theorem laidOut : laidOutB Tryz.prog = true := V.laidOut
def htxt (l : List UInt8) : ByteArray := ⟨l.toArray⟩
theorem gCls : Tryz.prog.globalNamed "domesday/perm.classes" = some 0 := by kernel_rfl
theorem gClsType : (Tryz.prog.globals[0]?).map (·.type) = some 158 := by kernel_rfl
theorem cellsCls : Tryz.prog.cellsOf 157 = 4 := by kernel_rfl
theorem cells3Cls : Tryz.prog.cellsOf 158 = 12 := by kernel_rfl
set_option maxRecDepth 100000 in
/-- A class that reads as two numbers and two texts holds them, cell by cell. -/
theorem cls_of {H : Type} {enc : TypeId × Value → H} {w : World} {base : Nat} {sp : Nat → Bool} {held : Bool} {fuel : Nat} {cs : List Value} {f s : Int} {x X : List UInt8} {y : DataW H × List MemPlace}
    (h : DataW.trod enc Tryz.prog w base sp held fuel 157 cs = some y) (hy : y.1 = .agg [.lit (.int .i64 f), .lit (.int .i64 s), .lit (.string x), .lit (.string X)]) :
    cs[0]? = some (.int .i64 f) ∧ cs[1]? = some (.int .i64 s) ∧ cs[2]? = some (.string (htxt x)) ∧ cs[3]? = some (.string (htxt X)) := by
  obtain ⟨ys, n, _, rfl, hl, hyl, hf⟩ := DataW.trod_struct Tryz.underlying157 h
  rw [cellsCls] at hl
  have f0 := hf 0 _ rfl
  have f1 := hf 1 _ rfl
  have f2 := hf 2 _ rfl
  have f3 := hf 3 _ rfl
  clear hf
  match cs, hl, ys, hyl with
  | [c0, c1, c2, c3], _, [y0, y1, y2, y3], _ =>
    simp [V.cellsInt, V.cellsStr] at f0 f1 f2 f3
    obtain ⟨n0, e0, k0, _⟩ := DataW.trod_int Tryz.underlying3 f0
    obtain ⟨n1, e1, k1, _⟩ := DataW.trod_int Tryz.underlying3 f1
    obtain ⟨s2, e2, k2, _⟩ := DataW.trod_string Tryz.underlying9 f2
    obtain ⟨s3, e3, k3, _⟩ := DataW.trod_string Tryz.underlying9 f3
    simp at e0 e1 e2 e3
    simp [k0, k1, k2, k3] at hy
    obtain ⟨h0, h1, h2, h3⟩ := hy
    refine ⟨by rw [e0, h0]; rfl, by rw [e1, h1]; rfl, ?_, ?_⟩
    · rw [e2, ← h2]; cases s2; simp [htxt]
    · rw [e3, ← h3]; cases s3; simp [htxt]

set_option maxRecDepth 100000 in
theorem tab_of {W : World} {x : String × DataW Unit} {l : List (String × DataW Unit)} (h : laidMet Tryz.prog (x :: ("domesday/perm.classes", Rows.laid_domesday_perm_classes) :: l) W) : P.Tab W := by
  obtain ⟨ps, ⟨_, _, _, _, _, _, _, _, _, _, ⟨g', t', cs, fuel, p, q, hg', ht', hvar, hd, _, _⟩, _⟩, _⟩ := h
  obtain rfl := Option.some.inj (gCls.symm.trans hg')
  obtain rfl := Option.some.inj (gClsType.symm.trans ht')
  obtain ⟨xs, m, _, hx, hlen, hxl, ha⟩ := DataW.trod_array Tryz.underlying158 hd
  have a0 := ha 0 (by decide)
  have a1 := ha 1 (by decide)
  have a2 := ha 2 (by decide)
  clear ha
  have hx1 := congrArg Prod.fst hx
  unfold Rows.laid_domesday_perm_classes at hx1
  match xs, hxl with
  | [z0, z1, z2], _ =>
    simp only [List.map_cons, List.map_nil, DataW.agg.injEq, List.cons.injEq, and_true] at hx1
    obtain ⟨k0, k1, k2⟩ := hx1
    rw [cellsCls] at a0 a1 a2
    have c0 := cls_of a0 k0.symm
    have c1 := cls_of a1 k1.symm
    have c2 := cls_of a2 k2.symm
    refine ⟨fun j v hj => ?_⟩
    rw [World.var?_cell gCls hvar (0 + j)]
    simp at c0 c1 c2
    have hl : j < 12 := (List.getElem?_eq_some_iff.1 hj).1
    match j, hl, hj with
    | 0, _, hj => cases Option.some.inj hj; exact c0.1
    | 1, _, hj => cases Option.some.inj hj; exact c0.2.1
    | 2, _, hj => cases Option.some.inj hj; exact c0.2.2.1
    | 3, _, hj => cases Option.some.inj hj; exact c0.2.2.2
    | 4, _, hj => cases Option.some.inj hj; exact c1.1
    | 5, _, hj => cases Option.some.inj hj; exact c1.2.1
    | 6, _, hj => cases Option.some.inj hj; exact c1.2.2.1
    | 7, _, hj => cases Option.some.inj hj; exact c1.2.2.2
    | 8, _, hj => cases Option.some.inj hj; exact c2.1
    | 9, _, hj => cases Option.some.inj hj; exact c2.2.1
    | 10, _, hj => cases Option.some.inj hj; exact c2.2.2.1
    | 11, _, hj => cases Option.some.inj hj; exact c2.2.2.2
end Go.Proofs.YtigkdehaepenhaaGreatDoor.G

namespace Go.Proofs.YtigkdehaepenhaaGreatDoor.V
open Go.RowKit Go.Shelf

def strs (l : List ByteArray) : List Value := l.map Value.string
def beginsB (s : ByteArray) : Bool := Lib.hasPrefix s.data.toList [47]
def endsB (s : ByteArray) : Bool := Lib.hasSuffix s.data.toList [47]



/-- What the reference's loop holds: i bytes are read. -/
def RNmRel (s : ByteArray) (w : World) (v f i : Value) (wr : World) : Prop :=
  ∃ k : Nat, k ≤ s.size + 1 ∧ i = .int .i64 (k : Int) ∧ f = .int .i64 ((nmGo s k).2 : Int) ∧ Hid (Below w.heap.size w wr) ∧ Hid (wr.ownsRow w.heap.size 9 1 v (nmGo s k).1.length ((nmGo s k).1.map fun x => .string (s.extract x.1 x.2)))
theorem infoStr : (Tryz.prog.info? 9).map (fun i => (i.zero, i.size, i.bytes)) = some (some (.string ⟨#[]⟩), 1, 16) := by kernel_rfl

end Go.Proofs.YtigkdehaepenhaaGreatDoor.V

namespace Go.Proofs.YtigkdehaepenhaaGreatDoor.V
open Go.Proofs.YtigkdehaepenhaaGreatDoor.P
open Go.RowKit

/-- A node as perm's texts have it. -/
def nvOf (n : Nd) : Nv := ⟨n.dev, n.ino, n.kind, n.mode, n.uid, n.gid, n.size, n.blocks, n.links, n.t0, n.t1, n.t2, n.target⟩
def zeroNv : Nv := ⟨0, 0, 0, 0, 0, 0, 0, 0, 0, 0, 0, 0, ⟨#[]⟩⟩
def nvAt (M : List Nd) (i : Int) : Nv := match atM M i with
  | none => zeroNv
  | some n => nvOf n
theorem nodeV_nv (M : List Nd) (i : Int) : nodeV' M i = nodeV (nvAt M i) := by
  unfold nodeV' nvAt
  cases atM M i <;> rfl
def kindM (M : List Nd) (i : Int) : Int := (nvAt M i).kind
/-- A place: the node, and by which name's entry it was come to. -/
structure Pl where
  id : Int
  dir : Int
  name : ByteArray
def plOf (i : Int) : Pl := ⟨i, i, ⟨#[]⟩⟩
def findE (s : ByteArray) : List (ByteArray × Int) → Option Int
  | [] => none
  | x :: r => if sameT x.1 s = true then some x.2 else findE s r
/-- From a directory by a name. -/
def entW (M : List Nd) (u g : Int) (at_ : Int) (s : ByteArray) : Except Int Pl :=
  if kindM M at_ = 2 then
    (if mayB (bitsP (nvAt M at_) u g) 1 = true then
      (if s.size ≤ 255 then
        (if s.toList = [46] then .ok (plOf at_)
         else if s.toList = [46, 46] then .ok (plOf (overI M (upI M at_)))
         else if listE M at_ = 0 then
           (match findE s (listL M at_) with
            | none => .error 2
            | some i => .ok ⟨overI M i, at_, s⟩)
         else .error (listE M at_))
       else .error 7)
     else .error 5)
  else .error 3
/-- Is a node a link that is followed? -/
def thruW (M : List Nd) (follow slash : Bool) (r : List ByteArray) (i : Int) : Bool := kindM M i == 3 && (follow || (slash || decide (0 < r.length)))
/-- What a walk comes to: the error, or 0; the place; how many links were followed. -/
structure Res where
  err : Int
  pl : Pl
  hops : Int
def bad (e : Int) : Res := ⟨e, ⟨0, 0, ⟨#[]⟩⟩, 0⟩
def endW (M : List Nd) (slash : Bool) (p : Pl) (hops : Int) : Res :=
  if slash = true ∧ kindM M p.id ≠ 2 then bad 3 else ⟨0, p, hops⟩
/-- Along names, until a link is met. -/
def goL (M : List Nd) (u g : Int) (follow : Bool) (hops : Int) (k : Int → List ByteArray → Pl → Bool → Res) : List ByteArray → Pl → Bool → Res
  | [], p, slash => endW M slash p hops
  | s :: r, p, slash => match entW M u g p.id s with
    | .error e => bad e
    | .ok q => if thruW M follow slash r q.id = true then k q.id r p slash else goL M u g follow hops k r q slash
/-- With h links still to be followed. -/
def goW (M : List Nd) (u g : Int) (follow : Bool) : Nat → List ByteArray → Pl → Bool → Res
  | 0, l, p, slash => goL M u g follow 40 (fun _ _ _ _ => bad 6) l p slash
  | h + 1, l, p, slash => goL M u g follow (40 - (h + 1 : Nat)) (fun i r q sl => if linkE M i = 0 then goW M u g follow h (namesL (linkT M i) ++ r) (if beginsB (linkT M i) = true then plOf 0 else q) (sl || (endsB (linkT M i) && r.isEmpty)) else bad (linkE M i)) l p slash
def walkW (M : List Nd) (u g : Int) (s : ByteArray) (follow : Bool) : Res :=
  if s.size = 0 then bad 2 else if 4096 < s.size then bad 7 else goW M u g follow 40 (namesL s) (plOf 0) (endsB s)
def kOf (M : List Nd) (u g : Int) (follow : Bool) : Nat → Int → List ByteArray → Pl → Bool → Res
  | 0 => fun _ _ _ _ => bad 6
  | h + 1 => fun i r q sl => if linkE M i = 0 then goW M u g follow h (namesL (linkT M i) ++ r) (if beginsB (linkT M i) = true then plOf 0 else q) (sl || (endsB (linkT M i) && r.isEmpty)) else bad (linkE M i)
theorem goW_nil (M : List Nd) (u g : Int) (follow : Bool) (h : Nat) (p : Pl) (sl : Bool) : goW M u g follow h [] p sl = endW M sl p (40 - (h : Int)) := by
  cases h <;> rfl
theorem goW_cons (M : List Nd) (u g : Int) (follow : Bool) (h : Nat) (s : ByteArray) (r : List ByteArray) (p : Pl) (sl : Bool) : goW M u g follow h (s :: r) p sl =
    match entW M u g p.id s with
    | .error e => bad e
    | .ok q => if thruW M follow sl r q.id = true then kOf M u g follow h q.id r p sl else goW M u g follow h r q sl := by
  cases h <;> rfl
theorem entW_err {M : List Nd} {u g i : Int} {s : ByteArray} {e : Int} (h : entW M u g i s = .error e) : e ≠ 0 := by
  unfold entW at h
  by_cases h1 : kindM M i = 2
  · rw [if_pos h1] at h
    by_cases h2 : mayB (bitsP (nvAt M i) u g) 1 = true
    · rw [if_pos h2] at h
      by_cases h3 : s.size ≤ 255
      · rw [if_pos h3] at h
        by_cases h4 : s.toList = [46]
        · rw [if_pos h4] at h; cases h
        · rw [if_neg h4] at h
          by_cases h5 : s.toList = [46, 46]
          · rw [if_pos h5] at h; cases h
          · rw [if_neg h5] at h
            by_cases h6 : listE M i = 0
            · rw [if_pos h6] at h
              cases hf : findE s (listL M i) with
              | none => rw [hf] at h; have := Except.error.inj h; omega
              | some j => rw [hf] at h; cases h
            · rw [if_neg h6] at h
              have := Except.error.inj h
              omega
      · rw [if_neg h3] at h; have := Except.error.inj h; omega
    · rw [if_neg h2] at h; have := Except.error.inj h; omega
  · rw [if_neg h1] at h; have := Except.error.inj h; omega
theorem known_nv (n : Nv) : nodeV n = .agg #[.int .i64 n.dev, .int .i64 n.ino, .int .i64 n.kind, .int .i64 n.mode, .int .i64 n.uid, .int .i64 n.gid, .int .i64 n.size, .int .i64 n.blocks, .int .i64 n.links, .int .i64 n.ta, .int .i64 n.tb, .int .i64 n.tc, .string n.target] := rfl
end Go.Proofs.YtigkdehaepenhaaGreatDoor.V

namespace Go.Proofs.YtigkdehaepenhaaGreatDoor.J

def I64 (x : Int) : Prop := -9223372036854775808 ≤ x ∧ x ≤ 9223372036854775807
theorem i64_small {x : Int} (h : 0 ≤ x) (h2 : x ≤ 9223372036854775807) : I64 x := ⟨by omega, h2⟩
/-- The numbers of a node, as they are told. -/
structure NumJ (n : P.Nv) : Prop where
  size : I64 n.size
  blk : I64 n.blocks
  ta : I64 n.ta
  tb : I64 n.tb
  tc : I64 n.tc
  uid : I64 n.uid
  gid : I64 n.gid
  ino : I64 n.ino
  dev : I64 n.dev
  lnk : I64 n.links
  m0 : 0 ≤ n.mode
  m1 : n.mode < 4096
  kind : n.kind = 1 ∨ n.kind = 2 ∨ n.kind = 3
end Go.Proofs.YtigkdehaepenhaaGreatDoor.J

namespace Go.Proofs.YtigkdehaepenhaaGreatDoor.P
open Go.RowKit

/-- A text of a list's bytes. -/
def txt (l : List UInt8) : ByteArray := ⟨l.toArray⟩
theorem txt_size (l : List UInt8) : (txt l).size = l.length := by show l.toArray.size = _; simp
theorem txt_append (a b : List UInt8) : txt a ++ txt b = txt (a ++ b) := by
  unfold txt
  rw [ByteArray.mk_append_mk]
theorem txt_list (l : List UInt8) : (txt l).data.toList = l := by simp [txt]

/-- In w the builder at b, made behind W0, holds l; nothing of W0 has changed. -/
def Bld (W0 : World) (b : Nat) (l : List UInt8) (w : World) : Prop := Lib.IsBuilderF 106 5 W0.heap.size b (Lib.byteCells l) w ∧ Below W0.heap.size W0 w ∧ W0.heap.size ≤ w.heap.size
theorem at_keep {T e : TypeId} {B b : Nat} {p : Value} {bs : List Value} {w w' : World} (h : Lib.BuilderAtF T e B b p bs w) (hb : Below w.heap.size w w') : Lib.BuilderAtF T e B b p bs w' := by
  have hlt := h.lt
  obtain ⟨hB, v, hbk, hown, hne⟩ := h
  refine ⟨hB, v, (hb.block b hlt).trans hbk, ?_, hne⟩
  exact hown.kept (row := none) ⟨hb.os, hb.tape, hb.output, hb.size, fun k hk _ => hb.block k hk⟩ (by cases v.ownBlock <;> simp)
theorem Bld.keep {W0 : World} {b : Nat} {l : List UInt8} {w w' : World} (h : Bld W0 b l w) (hb : Below w.heap.size w w') : Bld W0 b l w' := by
  obtain ⟨h1, h2, h3⟩ := h
  refine ⟨?_, h2.trans (hb.mono h3), Nat.le_trans h3 hb.size⟩
  rcases h1 with h1 | h1
  · exact .inl (at_keep h1 hb)
  · exact .inr (at_keep h1 hb)
theorem Bld.made (W0 : World) : Bld W0 W0.heap.size [] (W0.alloc (.cells #[.pointer none, .slice none 0 0] 106)) := by
  refine ⟨.inl ⟨Nat.le_refl _, .slice none 0 0, ?_, World.ownsRowF_nil _ _ _ _, by simp [Value.ownBlock]⟩, (Below.refl _ _).alloc (Nat.le_refl _) _, by simp⟩
  exact heap_alloc_new _ _
/-- The four cells of a class's copy. -/
def CopyAt (k : Nat) (f s : Int) (x X : ByteArray) (w : World) : Prop := w.heap[k]? = some (.cells #[.int .i64 f, .int .i64 s, .string x, .string X] 157)
theorem Bld.writeString {W0 : World} {b : Nat} {l : List UInt8} {w : World} (h : Bld W0 b l w) (hl : l.length ≤ 1000000000) (s : ByteArray) (hs : s.size ≤ 1000000000) :
    Calls Tryz.prog 46 #[.pointer (some ⟨b, 0, none⟩), .string s] w fun e w' => (∃ v, e = .returned v) ∧ Bld W0 b (l ++ s.data.toList) w' ∧ ∀ k o, w.heap[k]? = some o → k ≠ b → (∀ c fz, o ≠ .cells c 5 fz) → w'.heap[k]? = some o := by
  obtain ⟨h1, h2, h3⟩ := h
  refine (Any.Builder_WriteString_k Tryz.laysB166 Tryz.Builder_Extra_B W0.heap.size b (Lib.byteCells l) s w h1 (by rw [Lib.byteCells_length]; omega) h3).mono ?_
  rintro e w' ⟨rfl, hA, hb, hk⟩
  refine ⟨⟨_, rfl⟩, ⟨.inr ?_, h2.trans hb, Nat.le_trans h3 hb.size⟩, fun k o h n c => hk k o h (fun e => n (Option.some.inj e)) c⟩
  rw [Lib.byteCells_append]
  exact hA
theorem Bld.string {W0 : World} {b : Nat} {l : List UInt8} {w : World} (h : Bld W0 b l w) :
    Calls Tryz.prog 47 #[.pointer (some ⟨b, 0, none⟩)] w fun e w' => e = .returned (.string (txt l)) ∧ Below W0.heap.size W0 w' := by
  obtain ⟨h1, h2, h3⟩ := h
  refine (Any.Builder_String_any_k Tryz.laysB169 Tryz.Builder_Extra_B W0.heap.size b l w h1 h3).mono ?_
  rintro e w' ⟨rfl, _, hb, _⟩
  exact ⟨rfl, h2.trans hb⟩

def kindL (k : Int) : List UInt8 := if k = 1 then [45] else if k = 2 then [100] else if k = 3 then [108] else [63]
def lastL (m : Int) (f s : Nat) (x X : UInt8) : UInt8 := if bitB m s then (if bitB m f then x else X) else (if bitB m f then 120 else 45)
def clsL (m : Int) (f s : Nat) (x X : UInt8) : List UInt8 := [if bitB m (f + 2) then 114 else 45, if bitB m (f + 1) then 119 else 45, lastL m f s x X]
def textP (k m : Int) : List UInt8 := kindL k ++ clsL m 6 11 115 83 ++ clsL m 3 10 115 83 ++ clsL m 0 9 116 84

set_option maxHeartbeats 1000000 in
theorem kind_any (n : Nv) (w : World) :
    Calls Tryz.prog 111 #[nodeV n] w fun e w' => e = .returned (.string (txt (kindL n.kind))) ∧ Below w.heap.size w w' := by
  unfold nodeV
  by_cases h1 : n.kind = 1
  · have HR := Lib.hid (show kindL n.kind = [45] by unfold kindL; rw [if_pos h1])
    have t1 : (n.kind == 1) = true := beq_iff_eq.2 h1
    clear h1
    go_enter Tryz.func111, Tryz.ntmps111
    go_wp2
    go_ret
    exact ⟨by rw [HR.out]; rfl, by (repeat (first | (with_reducible apply Below.setCell (hp := ?_)) | (with_reducible apply Below.alloc (hB := ?_)) | (with_reducible exact Below.refl _ _) | (simp; done) | omega))⟩
  · have t1 : (n.kind == 1) = false := beq_eq_false_iff_ne.2 h1
    by_cases h2 : n.kind = 2
    · have HR := Lib.hid (show kindL n.kind = [100] by unfold kindL; rw [if_neg h1, if_pos h2])
      have t2 : (n.kind == 2) = true := beq_iff_eq.2 h2
      clear h1 h2
      go_enter Tryz.func111, Tryz.ntmps111
      go_wp2
      go_ret
      exact ⟨by rw [HR.out]; rfl, by (repeat (first | (with_reducible apply Below.setCell (hp := ?_)) | (with_reducible apply Below.alloc (hB := ?_)) | (with_reducible exact Below.refl _ _) | (simp; done) | omega))⟩
    · have t2 : (n.kind == 2) = false := beq_eq_false_iff_ne.2 h2
      by_cases h3 : n.kind = 3
      · have HR := Lib.hid (show kindL n.kind = [108] by unfold kindL; rw [if_neg h1, if_neg h2, if_pos h3])
        have t3 : (n.kind == 3) = true := beq_iff_eq.2 h3
        clear h1 h2 h3
        go_enter Tryz.func111, Tryz.ntmps111
        go_wp2
        go_ret
        exact ⟨by rw [HR.out]; rfl, by (repeat (first | (with_reducible apply Below.setCell (hp := ?_)) | (with_reducible apply Below.alloc (hB := ?_)) | (with_reducible exact Below.refl _ _) | (simp; done) | omega))⟩
      · have HR := Lib.hid (show kindL n.kind = [63] by unfold kindL; rw [if_neg h1, if_neg h2, if_neg h3])
        have t3 : (n.kind == 3) = false := beq_eq_false_iff_ne.2 h3
        clear h1 h2 h3
        go_enter Tryz.func111, Tryz.ntmps111
        go_wp2
        go_ret
        exact ⟨by rw [HR.out]; rfl, by (repeat (first | (with_reducible apply Below.setCell (hp := ?_)) | (with_reducible apply Below.alloc (hB := ?_)) | (with_reducible exact Below.refl _ _) | (simp; done) | omega))⟩

set_option maxHeartbeats 1000000 in
theorem last_any (m : Int) (f s : Nat) (x X : UInt8) (w : World) (hf : f ≤ 60) (hs : s ≤ 60) :
    Calls Tryz.prog 114 #[.int .i64 m, .agg #[.int .i64 (f : Int), .int .i64 (s : Int), .string ⟨#[x]⟩, .string ⟨#[X]⟩]] w fun e w' => e = .returned (.string (txt [lastL m f s x X])) ∧ Below w.heap.size w w' := by
  have S1 := Lib.hid (fun w' => pset_any m f w' (by omega))
  have S2 := Lib.hid (fun w' => pset_any m s w' (by omega))
  obtain ⟨p, hp⟩ : ∃ p, bitB m f = p := ⟨_, rfl⟩
  cases hq : bitB m s
  · have HL := Lib.hid (show txt [lastL m f s x X] = if p then ⟨#[120]⟩ else ⟨#[45]⟩ by unfold lastL; rw [hq, hp]; cases p <;> rfl)
    rw [hp] at S1
    rw [hq] at S2
    clear hp hq
    cases p
    all_goals (
      go_enter Tryz.func114, Tryz.ntmps114
      go_wp2_with fail
      refine (S1.out _).mono ?_
      rintro e w' ⟨rfl, rfl⟩
      go_wp2_with fail
      refine (S2.out _).mono ?_
      rintro e w' ⟨rfl, rfl⟩
      go_wp2_with fail
      refine (letter_any _ _ _ _).mono ?_
      rintro e w' ⟨rfl, rfl⟩
      go_wp2_with fail
      go_ret
      exact ⟨by rw [HL.out]; rfl, by (repeat (first | (with_reducible apply Below.setCell (hp := ?_)) | (with_reducible apply Below.alloc (hB := ?_)) | (with_reducible exact Below.refl _ _) | (simp; done) | omega))⟩)
  · have HL := Lib.hid (show txt [lastL m f s x X] = if p then ⟨#[x]⟩ else ⟨#[X]⟩ by unfold lastL; rw [hq, hp]; cases p <;> rfl)
    rw [hp] at S1
    rw [hq] at S2
    clear hp hq
    cases p
    all_goals (
      go_enter Tryz.func114, Tryz.ntmps114
      go_wp2_with fail
      refine (S1.out _).mono ?_
      rintro e w' ⟨rfl, rfl⟩
      go_wp2_with fail
      refine (S2.out _).mono ?_
      rintro e w' ⟨rfl, rfl⟩
      go_wp2_with fail
      refine (letter_any _ _ _ _).mono ?_
      rintro e w' ⟨rfl, rfl⟩
      go_wp2_with fail
      go_ret
      exact ⟨by rw [HL.out]; rfl, by (repeat (first | (with_reducible apply Below.setCell (hp := ?_)) | (with_reducible apply Below.alloc (hB := ?_)) | (with_reducible exact Below.refl _ _) | (simp; done) | omega))⟩)
end Go.Proofs.YtigkdehaepenhaaGreatDoor.P
