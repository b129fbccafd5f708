/-
  The bits of a number.
  Conditions: each fact's own.
-/
import Derived.Test.YtfhagjnlliafiaaGreatDoorRows
import Derived.WalkKit
import Derived.WalkSpells
import Derived.WalkLawsBesides
import Derived.Lib.Hide
import Derived.Lib.OthersKept
import Derived.Deep.QuietTactic
import Derived.BigQuiet
import Derived.Deep.WholeRow
import Derived.Deep.MidRow
import Derived.Test.YtfhagjnlliafiaaGreatDoorCards
import Derived.Test.YtfhagjnlliafiaaGreatDoorTie
import Derived.Test.YtfhagjnlliafiaaGreatDoorKVArg
import Derived.Lib.LaidTab
import Derived.ChangeOld
import Derived.Below
import Derived.LaidMore
import Derived.ChangeSame
import Derived.Lay
import Derived.Deep.DeepHandedRow
import Derived.Deep.DeepWitnessRowRef
import Derived.Stop.LaidErr
import Derived.Test.YtfhagjnlliafiaaGreatDoorShelfB
import Derived.Shelf.Strings.BuilderK
import Derived.Lib.BufSteps
set_option linter.unusedSimpArgs false
set_option linter.unusedVariables false
set_option maxHeartbeats 2000000
set_option maxRecDepth 100000
namespace Go.Proofs.YtfhagjnlliafiaaGreatDoor.P
open Go.RowKit
def bitB (b : Int) (k : Nat) : Bool := decide (b / 2 ^ k % 2 = 1)
theorem and_one (x : Int) : bits .and .i64 x 1 = x % 2 := by
  have h : ((BitVec.ofInt 64 x &&& BitVec.ofInt 64 1).toNat : Int) = x % 2 := by
    rw [BitVec.toNat_and, show (BitVec.ofInt 64 1).toNat = 1 from by decide, Nat.and_one_is_mod, BitVec.toNat_ofInt]
    omega
  have h2 : bits .and .i64 x 1 = IntKind.i64.wrap ((BitVec.ofInt 64 x &&& BitVec.ofInt 64 1).toNat : Int) := rfl
  rw [h2, h]
  have e : x % 2 = 0 ∨ x % 2 = 1 := by omega
  rcases e with e | e <;> rw [e] <;> decide
theorem pret_bool {a b : Bool} (h : a = b) : Ending.returned (.bool a) = .returned (.bool b) := by rw [h]
theorem pset_any (b : Int) (k : Nat) (w : World) (hk : k ≤ 62) :
    Calls Tryz.prog 109 #[.int .i64 b, .int .i64 (k : Int)] w fun e w' => e = .returned (.bool (bitB b k)) ∧ w = w' := by
  have hb : (bits BinOp.and IntKind.i64 (b / 2 ^ k) 1 == 1) = bitB b k := by
    rw [and_one]
    unfold bitB
    by_cases h : b / 2 ^ k % 2 = 1
    · rw [decide_eq_true h, h]; rfl
    · rw [decide_eq_false h]; exact beq_eq_false_iff_ne.2 h
  have HB := Lib.hid hb
  clear hb
  go_enter Tryz.func109, Tryz.ntmps109
  go_wp2
  go_ret
  exact ⟨pret_bool HB.out, rfl⟩
theorem setAt (k : Nat) (i : Int) (h : i = (k : Int)) (hk : k ≤ 62) (b : Int) (w : World) :
    Calls Tryz.prog 109 #[.int .i64 b, .int .i64 i] w fun e w' => e = .returned (.bool (bitB b k)) ∧ w = w' := by subst h; exact pset_any b k w hk
theorem letter_any (b : Bool) (y n : ByteArray) (w : World) :
    Calls Tryz.prog 108 #[.bool b, .string y, .string n] w fun e w' => e = .returned (.string (if b then y else n)) ∧ w = w' := by
  cases b
  · go_enter Tryz.func108, Tryz.ntmps108
    go_wp2
    go_ret
    exact ⟨rfl, rfl⟩
  · go_enter Tryz.func108, Tryz.ntmps108
    go_wp2
    go_ret
    exact ⟨rfl, rfl⟩
structure Nv where
  dev : Int
  ino : Int
  kind : Int
  mode : Int
  uid : Int
  gid : Int
  size : Int
  blocks : Int
  links : Int
  ta : Int
  tb : Int
  tc : Int
  target : ByteArray
def nodeV (n : Nv) : Value := .agg #[.int .i64 n.dev, .int .i64 n.ino, .int .i64 n.kind, .int .i64 n.mode, .int .i64 n.uid, .int .i64 n.gid, .int .i64 n.size, .int .i64 n.blocks, .int .i64 n.links, .int .i64 n.ta, .int .i64 n.tb, .int .i64 n.tc, .string n.target]
def classCells : List Value := [.int .i64 6, .int .i64 11, .string ⟨#[115]⟩, .string ⟨#[83]⟩, .int .i64 3, .int .i64 10, .string ⟨#[115]⟩, .string ⟨#[83]⟩, .int .i64 0, .int .i64 9, .string ⟨#[116]⟩, .string ⟨#[84]⟩]
structure Tab (w : World) : Prop where
  cell : w.rangeAt 1 0 classCells
theorem cell_lt {w : World} {a : Addr} {v : Value} (h : w.cell? a = some v) : a.block < w.heap.size := by
  apply Classical.byContradiction
  intro hn
  have : w.heap[a.block]? = none := Array.getElem?_eq_none (by omega)
  unfold World.cell? at h
  simp [this] at h
theorem Tab.keep {w w' : World} (h : Tab w) (hb : Below w.heap.size w w') : Tab w' :=
  ⟨fun j v hj => by rw [hb.cell (p := ⟨1, 0 + j, none⟩) (cell_lt (h.cell j v hj))]; exact h.cell j v hj⟩
theorem pbelow_two {w a b : World} (h : Below w.heap.size w a) (k : Below a.heap.size a b) : Below w.heap.size w b := h.trans (k.mono h.size)
theorem sizeClasses : (Tryz.prog.info? 161).map (·.size) = some classCells.length := by kernel_rfl
theorem class0 : ∀ w : World, (Instr.index 161 (.agg classCells.toArray) (.int .i64 0)).run Tryz.prog w = .ok (.agg #[.int .i64 6, .int .i64 11, .string ⟨#[115]⟩, .string ⟨#[83]⟩]) w := fun _ => by kernel_rfl
theorem class1 : ∀ w : World, (Instr.index 161 (.agg classCells.toArray) (.int .i64 1)).run Tryz.prog w = .ok (.agg #[.int .i64 3, .int .i64 10, .string ⟨#[115]⟩, .string ⟨#[83]⟩]) w := fun _ => by kernel_rfl
theorem class2 : ∀ w : World, (Instr.index 161 (.agg classCells.toArray) (.int .i64 2)).run Tryz.prog w = .ok (.agg #[.int .i64 0, .int .i64 9, .string ⟨#[116]⟩, .string ⟨#[84]⟩]) w := fun _ => by kernel_rfl
def anyB (m : Int) : Bool := bitB m 6 || bitB m 3 || bitB m 0
end Go.Proofs.YtfhagjnlliafiaaGreatDoor.P
namespace Go.Proofs.YtfhagjnlliafiaaGreatDoor.P
open Go.RowKit
def SRel (W : World) (b : Nat) (m : Int) (v : Value) (w : World) : Prop :=
  ∃ k : Nat, k ≤ 3 ∧ v = .int .i64 (k : Int) ∧ Hid ((0 < k → bitB m 6 = false) ∧ (1 < k → bitB m 3 = false) ∧ (2 < k → bitB m 0 = false)) ∧ Below W.heap.size W w ∧ w.cell? ⟨b, 3, none⟩ = some (.int .i64 m)
theorem searched_any (n : Nv) (w : World) (ht : Tab w) :
    Calls Tryz.prog 141 #[nodeV n] w fun e w' => e = .returned (.bool (anyB n.mode)) ∧ Below w.heap.size w w' := by
  have HT := Lib.hid ht
  clear ht
  unfold nodeV
  go_enter Tryz.func141, Tryz.ntmps141
  go_wp2_with (refine wpList_load_mid rfl 161 (.global 1) rfl 1 0 rfl classCells _ (HT.out.keep ((Below.refl _ _).alloc (Nat.le_refl _) _)).cell Tryz.underlying161 rfl sizeClasses ?_)
  go_loopw [6] (SRel w w.heap.size n.mode) (fun v _ => (3 - intOf v).toNat)
  case atStart => exact ⟨0, by decide, rfl, Lib.hid ⟨by omega, by omega, by omega⟩, (Below.refl _ _).alloc (Nat.le_refl _) _, by rw [World.cell?_alloc_at _ _ _ _ rfl]; rfl⟩
  case round =>
    obtain ⟨k, hk, rfl, hz, hb, hc⟩ := hrel
    have hlt := cell_lt hc
    have hlt' : w.heap.size < wr.heap.size := hlt
    clear hlt
    have HB := Lib.hid hb
    clear hb
    have hk' : k = 0 ∨ k = 1 ∨ k = 2 ∨ k = 3 := by omega
    clear hk
    rcases hk' with rfl | rfl | rfl | rfl
    · have hi := class0
      by_cases hq : bitB n.mode 6 = true
      · have HA := Lib.hid (show anyB n.mode = true by unfold anyB; rw [hq]; simp)
        have HQ := Lib.hid hq
        clear hq
        go_wp2_with (go_at_call 109; refine (setAt 6 _ rfl (by decide) _ _).mono ?_; rintro e w' ⟨rfl, rfl⟩; rw [HQ.out])
        go_ret
        refine ⟨pret_bool HA.out.symm, ?_⟩
        refine pbelow_two HB.out ?_
        repeat (first | (with_reducible apply Below.setCell (hp := ?_)) | (with_reducible apply Below.alloc (hB := ?_)) | (with_reducible exact Below.refl _ _) | (simp; done))
      · have hq' : bitB n.mode 6 = false := by simpa using hq
        have HQ := Lib.hid hq'
        have HZ : Hid ((0 < 1 → bitB n.mode 6 = false) ∧ (1 < 1 → bitB n.mode 3 = false) ∧ (2 < 1 → bitB n.mode 0 = false)) := Lib.hid (by have := hz.out; simp_all)
        clear hq hq' hz
        go_wp2_with (go_at_call 109; refine (setAt 6 _ rfl (by decide) _ _).mono ?_; rintro e w' ⟨rfl, rfl⟩; rw [HQ.out])
        go_roundw
        case rel =>
          refine ⟨1, by decide, rfl, HZ, ?_, ?_⟩
          · refine pbelow_two HB.out ?_
            repeat (first | (with_reducible apply Below.setCell (hp := ?_)) | (with_reducible apply Below.alloc (hB := ?_)) | (with_reducible exact Below.refl _ _) | (simp; done))
          · go_simp
        case measure => decide
    · have hi := class1
      by_cases hq : bitB n.mode 3 = true
      · have HA := Lib.hid (show anyB n.mode = true by unfold anyB; rw [hq]; simp)
        have HQ := Lib.hid hq
        clear hq
        go_wp2_with (go_at_call 109; refine (setAt 3 _ rfl (by decide) _ _).mono ?_; rintro e w' ⟨rfl, rfl⟩; rw [HQ.out])
        go_ret
        refine ⟨pret_bool HA.out.symm, ?_⟩
        refine pbelow_two HB.out ?_
        repeat (first | (with_reducible apply Below.setCell (hp := ?_)) | (with_reducible apply Below.alloc (hB := ?_)) | (with_reducible exact Below.refl _ _) | (simp; done))
      · have hq' : bitB n.mode 3 = false := by simpa using hq
        have HQ := Lib.hid hq'
        have HZ : Hid ((0 < 2 → bitB n.mode 6 = false) ∧ (1 < 2 → bitB n.mode 3 = false) ∧ (2 < 2 → bitB n.mode 0 = false)) := Lib.hid (by have := hz.out; simp_all)
        clear hq hq' hz
        go_wp2_with (go_at_call 109; refine (setAt 3 _ rfl (by decide) _ _).mono ?_; rintro e w' ⟨rfl, rfl⟩; rw [HQ.out])
        go_roundw
        case rel =>
          refine ⟨2, by decide, rfl, HZ, ?_, ?_⟩
          · refine pbelow_two HB.out ?_
            repeat (first | (with_reducible apply Below.setCell (hp := ?_)) | (with_reducible apply Below.alloc (hB := ?_)) | (with_reducible exact Below.refl _ _) | (simp; done))
          · go_simp
        case measure => decide
    · have hi := class2
      by_cases hq : bitB n.mode 0 = true
      · have HA := Lib.hid (show anyB n.mode = true by unfold anyB; rw [hq]; simp)
        have HQ := Lib.hid hq
        clear hq
        go_wp2_with (go_at_call 109; refine (setAt 0 _ rfl (by decide) _ _).mono ?_; rintro e w' ⟨rfl, rfl⟩; rw [HQ.out])
        go_ret
        refine ⟨pret_bool HA.out.symm, ?_⟩
        refine pbelow_two HB.out ?_
        repeat (first | (with_reducible apply Below.setCell (hp := ?_)) | (with_reducible apply Below.alloc (hB := ?_)) | (with_reducible exact Below.refl _ _) | (simp; done))
      · have hq' : bitB n.mode 0 = false := by simpa using hq
        have HQ := Lib.hid hq'
        have HZ : Hid ((0 < 3 → bitB n.mode 6 = false) ∧ (1 < 3 → bitB n.mode 3 = false) ∧ (2 < 3 → bitB n.mode 0 = false)) := Lib.hid (by have := hz.out; simp_all)
        clear hq hq' hz
        go_wp2_with (go_at_call 109; refine (setAt 0 _ rfl (by decide) _ _).mono ?_; rintro e w' ⟨rfl, rfl⟩; rw [HQ.out])
        go_roundw
        case rel =>
          refine ⟨3, by decide, rfl, HZ, ?_, ?_⟩
          · refine pbelow_two HB.out ?_
            repeat (first | (with_reducible apply Below.setCell (hp := ?_)) | (with_reducible apply Below.alloc (hB := ?_)) | (with_reducible exact Below.refl _ _) | (simp; done))
          · go_simp
        case measure => decide
    · have HA := Lib.hid (show anyB n.mode = false by obtain ⟨a, b, c⟩ := hz.out; unfold anyB; rw [a (by decide), b (by decide), c (by decide)]; rfl)
      clear hz
      go_wp2
      go_ret
      exact ⟨pret_bool HA.out.symm, HB.out⟩
end Go.Proofs.YtfhagjnlliafiaaGreatDoor.P
namespace Go.Proofs.YtfhagjnlliafiaaGreatDoor.P
open Go.RowKit
end Go.Proofs.YtfhagjnlliafiaaGreatDoor.P
namespace Go.Proofs.YtfhagjnlliafiaaGreatDoor.G
open Go.ChangeShapes Go.WideShapes Go.ChangeAt Go.RowKit Go.Deep
theorem own : ownKnob Tryz.prog.godebug = none := V.own
theorem laidOut : laidOutB Tryz.prog = true := V.laidOut
def htxt (l : List UInt8) : ByteArray := ⟨l.toArray⟩
theorem gCls : Tryz.prog.globalNamed "domesday/perm.classes" = some 1 := by kernel_rfl
theorem gClsType : (Tryz.prog.globals[1]?).map (·.type) = some 161 := by kernel_rfl
theorem cellsCls : Tryz.prog.cellsOf 160 = 4 := by kernel_rfl
theorem cls_of {H : Type} {enc : TypeId × Value → H} {w : World} {base : Nat} {sp : Nat → Bool} {held : Bool} {fuel : Nat} {cs : List Value} {f s : Int} {x X : List UInt8} {y : DataW H × List MemPlace}
    (h : DataW.trod enc Tryz.prog w base sp held fuel 160 cs = some y) (hy : y.1 = .agg [.lit (.int .i64 f), .lit (.int .i64 s), .lit (.string x), .lit (.string X)]) :
    cs[0]? = some (.int .i64 f) ∧ cs[1]? = some (.int .i64 s) ∧ cs[2]? = some (.string (htxt x)) ∧ cs[3]? = some (.string (htxt X)) := by
  obtain ⟨ys, n, _, rfl, hl, hyl, hf⟩ := DataW.trod_struct Tryz.underlying160 h
  rw [cellsCls] at hl
  have f0 := hf 0 _ rfl
  have f1 := hf 1 _ rfl
  have f2 := hf 2 _ rfl
  have f3 := hf 3 _ rfl
  clear hf
  match cs, hl, ys, hyl with
  | [c0, c1, c2, c3], _, [y0, y1, y2, y3], _ =>
    simp [V.cellsInt, V.cellsStr] at f0 f1 f2 f3
    obtain ⟨n0, e0, k0, _⟩ := DataW.trod_int Tryz.underlying3 f0
    obtain ⟨n1, e1, k1, _⟩ := DataW.trod_int Tryz.underlying3 f1
    obtain ⟨s2, e2, k2, _⟩ := DataW.trod_string Tryz.underlying9 f2
    obtain ⟨s3, e3, k3, _⟩ := DataW.trod_string Tryz.underlying9 f3
    simp at e0 e1 e2 e3
    simp [k0, k1, k2, k3] at hy
    obtain ⟨h0, h1, h2, h3⟩ := hy
    refine ⟨by rw [e0, h0]; rfl, by rw [e1, h1]; rfl, ?_, ?_⟩
    · rw [e2, ← h2]; cases s2; simp [htxt]
    · rw [e3, ← h3]; cases s3; simp [htxt]
theorem tab_of {W : World} {x : String × DataW Unit} {l : List (String × DataW Unit)} (h : laidMet Tryz.prog (x :: ("domesday/perm.classes", Rows.laid_domesday_perm_classes) :: l) W) : P.Tab W := by
  obtain ⟨ps, ⟨_, _, _, _, _, _, _, _, _, _, ⟨g', t', cs, fuel, p, q, hg', ht', hvar, hd, _, _⟩, _⟩, _⟩ := h
  obtain rfl := Option.some.inj (gCls.symm.trans hg')
  obtain rfl := Option.some.inj (gClsType.symm.trans ht')
  obtain ⟨xs, m, _, hx, hlen, hxl, ha⟩ := DataW.trod_array Tryz.underlying161 hd
  have a0 := ha 0 (by decide)
  have a1 := ha 1 (by decide)
  have a2 := ha 2 (by decide)
  clear ha
  have hx1 := congrArg Prod.fst hx
  unfold Rows.laid_domesday_perm_classes at hx1
  match xs, hxl with
  | [z0, z1, z2], _ =>
    simp only [List.map_cons, List.map_nil, DataW.agg.injEq, List.cons.injEq, and_true] at hx1
    obtain ⟨k0, k1, k2⟩ := hx1
    rw [cellsCls] at a0 a1 a2
    have c0 := cls_of a0 k0.symm
    have c1 := cls_of a1 k1.symm
    have c2 := cls_of a2 k2.symm
    refine ⟨fun j v hj => ?_⟩
    rw [World.var?_cell gCls hvar (0 + j)]
    simp at c0 c1 c2
    have hl : j < 12 := (List.getElem?_eq_some_iff.1 hj).1
    match j, hl, hj with
    | 0, _, hj => cases Option.some.inj hj; exact c0.1
    | 1, _, hj => cases Option.some.inj hj; exact c0.2.1
    | 2, _, hj => cases Option.some.inj hj; exact c0.2.2.1
    | 3, _, hj => cases Option.some.inj hj; exact c0.2.2.2
    | 4, _, hj => cases Option.some.inj hj; exact c1.1
    | 5, _, hj => cases Option.some.inj hj; exact c1.2.1
    | 6, _, hj => cases Option.some.inj hj; exact c1.2.2.1
    | 7, _, hj => cases Option.some.inj hj; exact c1.2.2.2
    | 8, _, hj => cases Option.some.inj hj; exact c2.1
    | 9, _, hj => cases Option.some.inj hj; exact c2.2.1
    | 10, _, hj => cases Option.some.inj hj; exact c2.2.2.1
    | 11, _, hj => cases Option.some.inj hj; exact c2.2.2.2
end Go.Proofs.YtfhagjnlliafiaaGreatDoor.G
namespace Go.Proofs.YtfhagjnlliafiaaGreatDoor.P
open Go.RowKit
def txt (l : List UInt8) : ByteArray := ⟨l.toArray⟩
theorem txt_size (l : List UInt8) : (txt l).size = l.length := by show l.toArray.size = _; simp
theorem txt_list (l : List UInt8) : (txt l).data.toList = l := by simp [txt]
def Bld (W0 : World) (b : Nat) (l : List UInt8) (w : World) : Prop := Lib.IsBuilderF 112 5 W0.heap.size b (Lib.byteCells l) w ∧ Below W0.heap.size W0 w ∧ W0.heap.size ≤ w.heap.size
theorem at_keep {T e : TypeId} {B b : Nat} {p : Value} {bs : List Value} {w w' : World} (h : Lib.BuilderAtF T e B b p bs w) (hb : Below w.heap.size w w') : Lib.BuilderAtF T e B b p bs w' := by
  have hlt := h.lt
  obtain ⟨hB, v, hbk, hown, hne⟩ := h
  refine ⟨hB, v, (hb.block b hlt).trans hbk, ?_, hne⟩
  exact hown.kept (row := none) ⟨hb.os, hb.tape, hb.output, hb.size, fun k hk _ => hb.block k hk⟩ (by cases v.ownBlock <;> simp)
theorem Bld.keep {W0 : World} {b : Nat} {l : List UInt8} {w w' : World} (h : Bld W0 b l w) (hb : Below w.heap.size w w') : Bld W0 b l w' := by
  obtain ⟨h1, h2, h3⟩ := h
  refine ⟨?_, h2.trans (hb.mono h3), Nat.le_trans h3 hb.size⟩
  rcases h1 with h1 | h1
  · exact .inl (at_keep h1 hb)
  · exact .inr (at_keep h1 hb)
theorem Bld.made (W0 : World) : Bld W0 W0.heap.size [] (W0.alloc (.cells #[.pointer none, .slice none 0 0] 112)) := by
  refine ⟨.inl ⟨Nat.le_refl _, .slice none 0 0, ?_, World.ownsRowF_nil _ _ _ _, by simp [Value.ownBlock]⟩, (Below.refl _ _).alloc (Nat.le_refl _) _, by simp⟩
  exact heap_alloc_new _ _
theorem Bld.writeString {W0 : World} {b : Nat} {l : List UInt8} {w : World} (h : Bld W0 b l w) (hl : l.length ≤ 1000000000) (s : ByteArray) (hs : s.size ≤ 1000000000) :
    Calls Tryz.prog 57 #[.pointer (some ⟨b, 0, none⟩), .string s] w fun e w' => (∃ v, e = .returned v) ∧ Bld W0 b (l ++ s.data.toList) w' ∧ ∀ k o, w.heap[k]? = some o → k ≠ b → (∀ c fz, o ≠ .cells c 5 fz) → w'.heap[k]? = some o := by
  obtain ⟨h1, h2, h3⟩ := h
  refine (Any.Builder_WriteString_k Tryz.laysB166 Tryz.Builder_Extra_B W0.heap.size b (Lib.byteCells l) s w h1 (by rw [Lib.byteCells_length]; omega) h3).mono ?_
  rintro e w' ⟨rfl, hA, hb, hk⟩
  refine ⟨⟨_, rfl⟩, ⟨.inr ?_, h2.trans hb, Nat.le_trans h3 hb.size⟩, fun k o h n c => hk k o h (fun e => n (Option.some.inj e)) c⟩
  rw [Lib.byteCells_append]
  exact hA
theorem Bld.string {W0 : World} {b : Nat} {l : List UInt8} {w : World} (h : Bld W0 b l w) :
    Calls Tryz.prog 58 #[.pointer (some ⟨b, 0, none⟩)] w fun e w' => e = .returned (.string (txt l)) ∧ Below W0.heap.size W0 w' := by
  obtain ⟨h1, h2, h3⟩ := h
  refine (Any.Builder_String_any_k Tryz.laysB169 Tryz.Builder_Extra_B W0.heap.size b l w h1 h3).mono ?_
  rintro e w' ⟨rfl, _, hb, _⟩
  exact ⟨rfl, h2.trans hb⟩
def kindL (k : Int) : List UInt8 := if k = 1 then [45] else if k = 2 then [100] else if k = 3 then [108] else [63]
def lastL (m : Int) (f s : Nat) (x X : UInt8) : UInt8 := if bitB m s then (if bitB m f then x else X) else (if bitB m f then 120 else 45)
def clsL (m : Int) (f s : Nat) (x X : UInt8) : List UInt8 := [if bitB m (f + 2) then 114 else 45, if bitB m (f + 1) then 119 else 45, lastL m f s x X]
def textP (k m : Int) : List UInt8 := kindL k ++ clsL m 6 11 115 83 ++ clsL m 3 10 115 83 ++ clsL m 0 9 116 84
theorem kind_any (n : Nv) (w : World) :
    Calls Tryz.prog 107 #[nodeV n] w fun e w' => e = .returned (.string (txt (kindL n.kind))) ∧ Below w.heap.size w w' := by
  unfold nodeV
  by_cases h1 : n.kind = 1
  · have HR := Lib.hid (show kindL n.kind = [45] by unfold kindL; rw [if_pos h1])
    have t1 : (n.kind == 1) = true := beq_iff_eq.2 h1
    clear h1
    go_enter Tryz.func107, Tryz.ntmps107
    go_wp2
    go_ret
    exact ⟨by rw [HR.out]; rfl, by (repeat (first | (with_reducible apply Below.setCell (hp := ?_)) | (with_reducible apply Below.alloc (hB := ?_)) | (with_reducible exact Below.refl _ _) | (simp; done) | omega))⟩
  · have t1 : (n.kind == 1) = false := beq_eq_false_iff_ne.2 h1
    by_cases h2 : n.kind = 2
    · have HR := Lib.hid (show kindL n.kind = [100] by unfold kindL; rw [if_neg h1, if_pos h2])
      have t2 : (n.kind == 2) = true := beq_iff_eq.2 h2
      clear h1 h2
      go_enter Tryz.func107, Tryz.ntmps107
      go_wp2
      go_ret
      exact ⟨by rw [HR.out]; rfl, by (repeat (first | (with_reducible apply Below.setCell (hp := ?_)) | (with_reducible apply Below.alloc (hB := ?_)) | (with_reducible exact Below.refl _ _) | (simp; done) | omega))⟩
    · have t2 : (n.kind == 2) = false := beq_eq_false_iff_ne.2 h2
      by_cases h3 : n.kind = 3
      · have HR := Lib.hid (show kindL n.kind = [108] by unfold kindL; rw [if_neg h1, if_neg h2, if_pos h3])
        have t3 : (n.kind == 3) = true := beq_iff_eq.2 h3
        clear h1 h2 h3
        go_enter Tryz.func107, Tryz.ntmps107
        go_wp2
        go_ret
        exact ⟨by rw [HR.out]; rfl, by (repeat (first | (with_reducible apply Below.setCell (hp := ?_)) | (with_reducible apply Below.alloc (hB := ?_)) | (with_reducible exact Below.refl _ _) | (simp; done) | omega))⟩
      · have HR := Lib.hid (show kindL n.kind = [63] by unfold kindL; rw [if_neg h1, if_neg h2, if_neg h3])
        have t3 : (n.kind == 3) = false := beq_eq_false_iff_ne.2 h3
        clear h1 h2 h3
        go_enter Tryz.func107, Tryz.ntmps107
        go_wp2
        go_ret
        exact ⟨by rw [HR.out]; rfl, by (repeat (first | (with_reducible apply Below.setCell (hp := ?_)) | (with_reducible apply Below.alloc (hB := ?_)) | (with_reducible exact Below.refl _ _) | (simp; done) | omega))⟩
theorem last_any (m : Int) (f s : Nat) (x X : UInt8) (w : World) (hf : f ≤ 60) (hs : s ≤ 60) :
    Calls Tryz.prog 110 #[.int .i64 m, .agg #[.int .i64 (f : Int), .int .i64 (s : Int), .string ⟨#[x]⟩, .string ⟨#[X]⟩]] w fun e w' => e = .returned (.string (txt [lastL m f s x X])) ∧ Below w.heap.size w w' := by
  have S1 := Lib.hid (fun w' => pset_any m f w' (by omega))
  have S2 := Lib.hid (fun w' => pset_any m s w' (by omega))
  obtain ⟨p, hp⟩ : ∃ p, bitB m f = p := ⟨_, rfl⟩
  cases hq : bitB m s
  · have HL := Lib.hid (show txt [lastL m f s x X] = if p then ⟨#[120]⟩ else ⟨#[45]⟩ by unfold lastL; rw [hq, hp]; cases p <;> rfl)
    rw [hp] at S1
    rw [hq] at S2
    clear hp hq
    cases p
    all_goals (
      go_enter Tryz.func110, Tryz.ntmps110
      go_wp2_with fail
      refine (S1.out _).mono ?_
      rintro e w' ⟨rfl, rfl⟩
      go_wp2_with fail
      refine (S2.out _).mono ?_
      rintro e w' ⟨rfl, rfl⟩
      go_wp2_with fail
      refine (letter_any _ _ _ _).mono ?_
      rintro e w' ⟨rfl, rfl⟩
      go_wp2_with fail
      go_ret
      exact ⟨by rw [HL.out]; rfl, by (repeat (first | (with_reducible apply Below.setCell (hp := ?_)) | (with_reducible apply Below.alloc (hB := ?_)) | (with_reducible exact Below.refl _ _) | (simp; done) | omega))⟩)
  · have HL := Lib.hid (show txt [lastL m f s x X] = if p then ⟨#[x]⟩ else ⟨#[X]⟩ by unfold lastL; rw [hq, hp]; cases p <;> rfl)
    rw [hp] at S1
    rw [hq] at S2
    clear hp hq
    cases p
    all_goals (
      go_enter Tryz.func110, Tryz.ntmps110
      go_wp2_with fail
      refine (S1.out _).mono ?_
      rintro e w' ⟨rfl, rfl⟩
      go_wp2_with fail
      refine (S2.out _).mono ?_
      rintro e w' ⟨rfl, rfl⟩
      go_wp2_with fail
      refine (letter_any _ _ _ _).mono ?_
      rintro e w' ⟨rfl, rfl⟩
      go_wp2_with fail
      go_ret
      exact ⟨by rw [HL.out]; rfl, by (repeat (first | (with_reducible apply Below.setCell (hp := ?_)) | (with_reducible apply Below.alloc (hB := ?_)) | (with_reducible exact Below.refl _ _) | (simp; done) | omega))⟩)
end Go.Proofs.YtfhagjnlliafiaaGreatDoor.P
namespace Go.Proofs.YtfhagjnlliafiaaGreatDoor.P
open Go.RowKit
def copyO (f s : Int) (x X : UInt8) : Obj := .cells #[.int .i64 f, .int .i64 s, .string ⟨#[x]⟩, .string ⟨#[X]⟩] 160
structure Rnd (W0 : World) (b q p0 : Nat) (m f s : Int) (x X : UInt8) (l : List UInt8) (w : World) : Prop where
  bld : Bld W0 b l w
  copy : w.heap[q]? = some (copyO f s x X)
  box : w.cell? ⟨p0, 3, none⟩ = some (.int .i64 m)
theorem Rnd.write {W0 : World} {b q p0 : Nat} {m f s : Int} {x X : UInt8} {l : List UInt8} {w : World} (h : Rnd W0 b q p0 m f s x X l w) (hq : q ≠ b) (hp : p0 < W0.heap.size) (hl : l.length ≤ 100) (t : ByteArray) (ht : t.size ≤ 100) :
    Calls Tryz.prog 57 #[.pointer (some ⟨b, 0, none⟩), .string t] w fun e w' => (∃ v, e = .returned v) ∧ Rnd W0 b q p0 m f s x X (l ++ t.data.toList) w' := by
  refine (h.bld.writeString (by omega) t (by omega)).mono ?_
  rintro e w' ⟨hv, hb, hk⟩
  refine ⟨hv, hb, hk q _ h.copy hq (fun c fz e => by unfold copyO at e; injection e with _ e2; exact absurd e2 (by decide)), ?_⟩
  rw [hb.2.1.cell (p := ⟨p0, 3, none⟩) hp, ← h.bld.2.1.cell (p := ⟨p0, 3, none⟩) hp]
  exact h.box
theorem Rnd.cells {W0 : World} {b q p0 : Nat} {m f s : Int} {x X : UInt8} {l : List UInt8} {w : World} (h : Rnd W0 b q p0 m f s x X l w) :
    w.cell? ⟨q, 0, none⟩ = some (.int .i64 f) ∧ w.cell? ⟨q, 1, none⟩ = some (.int .i64 s) ∧ w.cell? ⟨q, 2, none⟩ = some (.string ⟨#[x]⟩) ∧ w.cell? ⟨q, 3, none⟩ = some (.string ⟨#[X]⟩) ∧ w.cell? ⟨p0, 3, none⟩ = some (.int .i64 m) := by
  have hc := h.copy
  unfold copyO at hc
  refine ⟨?_, ?_, ?_, ?_, h.box⟩ <;> (unfold World.cell?; simp [hc])
def partL (m : Int) (k : Nat) : List UInt8 := match k with
  | 0 => []
  | 1 => clsL m 6 11 115 83
  | 2 => clsL m 6 11 115 83 ++ clsL m 3 10 115 83
  | _ => clsL m 6 11 115 83 ++ clsL m 3 10 115 83 ++ clsL m 0 9 116 84
theorem kindL_len (k : Int) : (kindL k).length = 1 := by unfold kindL; split; rfl; split; rfl; split <;> rfl
def TRel (W0 : World) (b : Nat) (kd m : Int) (v : Value) (w : World) : Prop := ∃ k : Nat, k ≤ 3 ∧ v = .int .i64 (k : Int) ∧ Bld W0 b (kindL kd ++ partL m k) w
theorem text_any (n : Nv) (w : World) (ht : Tab w) :
    Calls Tryz.prog 82 #[nodeV n] w fun e w' => e = .returned (.string (txt (textP n.kind n.mode))) ∧ Below w.heap.size w w' := by
  have HT := Lib.hid ht
  clear ht
  have HK := Lib.hid (kind_any n)
  obtain ⟨kl, hkl⟩ : ∃ kl, kindL n.kind = kl := ⟨_, rfl⟩
  have HKL := Lib.hid (show kl.length = 1 by rw [← hkl]; exact kindL_len _)
  rw [hkl] at HK
  have HR := Lib.hid (show textP n.kind n.mode = kl ++ partL n.mode 3 by unfold textP partL; rw [hkl]; simp)
  unfold nodeV at HK
  unfold nodeV
  obtain ⟨W0, hW0⟩ : ∃ W0, w.alloc (.cells #[.int .i64 n.dev, .int .i64 n.ino, .int .i64 n.kind, .int .i64 n.mode, .int .i64 n.uid, .int .i64 n.gid, .int .i64 n.size, .int .i64 n.blocks, .int .i64 n.links, .int .i64 n.ta, .int .i64 n.tb, .int .i64 n.tc, .string n.target] 63) = W0 := ⟨_, rfl⟩
  have HW := Lib.hid hW0
  have HBW := Lib.hid (show Below w.heap.size w W0 from by rw [← hW0]; (repeat (first | (with_reducible apply Below.setCell (hp := ?_)) | (with_reducible apply Below.alloc (hB := ?_)) | (with_reducible exact Below.refl _ _) | (simp; done) | omega)))
  have hsz : W0.heap.size = w.heap.size + 1 := by rw [← hW0]; simp
  have HC := Lib.hid (show W0.cell? ⟨w.heap.size, 3, none⟩ = some (.int .i64 n.mode) from by rw [← hW0, World.cell?_alloc_at _ _ _ _ rfl]; rfl)
  have HM := Lib.hid (Bld.made W0)
  clear hW0
  go_enter Tryz.func82, Tryz.ntmps82
  go_wp2_with fail
  refine (HK.out _).mono ?_
  rintro e w1 ⟨rfl, hb1⟩
  rw [HW.out] at hb1
  have hm := HM.out.keep hb1
  rw [hsz] at hm
  clear hb1
  have HM1 := Lib.hid hm
  clear hm
  go_wp2_with fail
  refine (HM1.out.writeString (by simp) (txt kl) (by rw [txt_size, HKL.out]; decide)).mono ?_
  rintro e w2 ⟨⟨v2, rfl⟩, hb2, _⟩
  rw [List.nil_append, txt_list] at hb2
  have HB2 := Lib.hid hb2
  clear hb2
  go_wp2_with (refine wpList_load_mid rfl 161 (.global 1) rfl 1 0 rfl classCells _ ((HT.out.keep HBW.out).keep HB2.out.2.1).cell Tryz.underlying161 rfl sizeClasses ?_)
  go_loopw [10] (TRel W0 (w.heap.size + 1) n.kind n.mode) (fun v _ => (3 - intOf v).toNat)
  case atStart => exact ⟨0, by decide, rfl, by rw [hkl]; simpa [partL] using HB2.out⟩
  case round =>
    clear HB2 HM1 HM HK
    obtain ⟨k, hk, rfl, hb⟩ := hrel
    rw [hkl] at hb
    have HB := Lib.hid hb
    have hlt' : w.heap.size + 1 < wr.heap.size := by
      rcases hb.1 with h | h
      · exact h.lt
      · exact h.lt
    have hc : wr.cell? ⟨w.heap.size, 3, none⟩ = some (.int .i64 n.mode) := by rw [hb.2.1.cell (p := ⟨w.heap.size, 3, none⟩) (show w.heap.size < W0.heap.size by omega)]; exact HC.out
    have HKE := Lib.hid hkl
    clear hb hkl
    have hk' : k = 0 ∨ k = 1 ∨ k = 2 ∨ k = 3 := by omega
    clear hk
    rcases hk' with rfl | rfl | rfl | rfl
    · have hi := class0
      have hr : Rnd W0 (w.heap.size + 1) wr.heap.size w.heap.size n.mode 6 11 115 83 (kl ++ partL n.mode 0) (wr.alloc (copyO 6 11 115 83)) :=
        ⟨HB.out.keep (by (repeat (first | (with_reducible apply Below.setCell (hp := ?_)) | (with_reducible apply Below.alloc (hB := ?_)) | (with_reducible exact Below.refl _ _) | (simp; done) | omega))), heap_alloc_new _ _, by rw [World.cell?_alloc_old _ _ _ (by show w.heap.size ≠ wr.heap.size; omega)]; exact hc⟩
      have hlen : (kl ++ partL n.mode 0).length ≤ 20 := by rw [List.length_append, HKL.out]; exact Nat.le_of_ble_eq_true rfl
      have HL := Lib.hid hlen
      clear hlen
      have hlt2 : w.heap.size < wr.heap.size := by omega
      have HR0 := Lib.hid hr
      clear hr
      obtain ⟨y1, e1⟩ : ∃ y : ByteArray, (if bitB n.mode 8 = true then (⟨#[114]⟩ : ByteArray) else ⟨#[45]⟩) = y := ⟨_, rfl⟩
      obtain ⟨y2, e2⟩ : ∃ y : ByteArray, (if bitB n.mode 7 = true then (⟨#[119]⟩ : ByteArray) else ⟨#[45]⟩) = y := ⟨_, rfl⟩
      have HY1 := Lib.hid (show y1.data.toList = [if bitB n.mode 8 then 114 else 45] ∧ y1.size = 1 by rw [← e1]; cases bitB n.mode 8 <;> exact ⟨rfl, rfl⟩)
      have HY2 := Lib.hid (show y2.data.toList = [if bitB n.mode 7 then 119 else 45] ∧ y2.size = 1 by rw [← e2]; cases bitB n.mode 7 <;> exact ⟨rfl, rfl⟩)
      have HE1 := Lib.hid e1
      have HE2 := Lib.hid e2
      clear e1 e2
      go_wp2_with fail
      refine (setAt 8 _ rfl (by decide) _ _).mono ?_
      rintro e w' ⟨rfl, rfl⟩
      go_wp2_with fail
      refine (letter_any _ _ _ _).mono ?_
      rintro e w' ⟨rfl, rfl⟩
      rw [HE1.out]
      go_wp2_with fail
      refine (HR0.out.write (by omega) (by omega) (by have := HL.out; omega) y1 (by rw [HY1.out.2]; decide)).mono ?_
      rintro e w3 ⟨⟨v3, rfl⟩, hr3⟩
      obtain ⟨c0, c1, c2, c3, c4⟩ := hr3.cells
      have HR3 := Lib.hid hr3
      clear hr3
      go_wp2_with fail
      refine (setAt 7 _ rfl (by decide) _ _).mono ?_
      rintro e w' ⟨rfl, rfl⟩
      go_wp2_with fail
      refine (letter_any _ _ _ _).mono ?_
      rintro e w' ⟨rfl, rfl⟩
      rw [HE2.out]
      go_wp2_with fail
      refine (HR3.out.write (by omega) (by omega) (by have := HL.out; rw [List.length_append, HY1.out.1]; simp; simp at this; omega) y2 (by rw [HY2.out.2]; decide)).mono ?_
      rintro e w4 ⟨⟨v4, rfl⟩, hr4⟩
      clear c0 c1 c2 c3 c4
      obtain ⟨c0, c1, c2, c3, c4⟩ := hr4.cells
      have HR4 := Lib.hid hr4
      clear hr4
      go_wp2_with fail
      refine (last_any n.mode 6 11 115 83 _ (by decide) (by decide)).mono ?_
      rintro e w5 ⟨rfl, hb5⟩
      have HB5 := Lib.hid (HR4.out.bld.keep hb5)
      clear hb5 c0 c1 c2 c3 c4
      go_wp2_with fail
      refine (HB5.out.writeString (by have := HL.out; rw [List.length_append, List.length_append, HY1.out.1, HY2.out.1]; simp; simp at this; omega) _ (by rw [txt_size]; simp)).mono ?_
      rintro e w6 ⟨⟨v6, rfl⟩, hb6, _⟩
      have HB6 := Lib.hid hb6
      clear hb6
      go_wp2_with fail
      go_roundw
      case rel =>
        refine ⟨1, by decide, rfl, ?_⟩
        have := HB6.out
        rw [HY1.out.1, HY2.out.1, txt_list, ← HKE.out] at this
        simpa [partL, clsL] using this
      case measure => decide
    · have hi := class1
      have hr : Rnd W0 (w.heap.size + 1) wr.heap.size w.heap.size n.mode 3 10 115 83 (kl ++ partL n.mode 1) (wr.alloc (copyO 3 10 115 83)) :=
        ⟨HB.out.keep (by (repeat (first | (with_reducible apply Below.setCell (hp := ?_)) | (with_reducible apply Below.alloc (hB := ?_)) | (with_reducible exact Below.refl _ _) | (simp; done) | omega))), heap_alloc_new _ _, by rw [World.cell?_alloc_old _ _ _ (by show w.heap.size ≠ wr.heap.size; omega)]; exact hc⟩
      have hlen : (kl ++ partL n.mode 1).length ≤ 20 := by rw [List.length_append, HKL.out]; exact Nat.le_of_ble_eq_true rfl
      have HL := Lib.hid hlen
      clear hlen
      have hlt2 : w.heap.size < wr.heap.size := by omega
      have HR0 := Lib.hid hr
      clear hr
      obtain ⟨y1, e1⟩ : ∃ y : ByteArray, (if bitB n.mode 5 = true then (⟨#[114]⟩ : ByteArray) else ⟨#[45]⟩) = y := ⟨_, rfl⟩
      obtain ⟨y2, e2⟩ : ∃ y : ByteArray, (if bitB n.mode 4 = true then (⟨#[119]⟩ : ByteArray) else ⟨#[45]⟩) = y := ⟨_, rfl⟩
      have HY1 := Lib.hid (show y1.data.toList = [if bitB n.mode 5 then 114 else 45] ∧ y1.size = 1 by rw [← e1]; cases bitB n.mode 5 <;> exact ⟨rfl, rfl⟩)
      have HY2 := Lib.hid (show y2.data.toList = [if bitB n.mode 4 then 119 else 45] ∧ y2.size = 1 by rw [← e2]; cases bitB n.mode 4 <;> exact ⟨rfl, rfl⟩)
      have HE1 := Lib.hid e1
      have HE2 := Lib.hid e2
      clear e1 e2
      go_wp2_with fail
      refine (setAt 5 _ rfl (by decide) _ _).mono ?_
      rintro e w' ⟨rfl, rfl⟩
      go_wp2_with fail
      refine (letter_any _ _ _ _).mono ?_
      rintro e w' ⟨rfl, rfl⟩
      rw [HE1.out]
      go_wp2_with fail
      refine (HR0.out.write (by omega) (by omega) (by have := HL.out; omega) y1 (by rw [HY1.out.2]; decide)).mono ?_
      rintro e w3 ⟨⟨v3, rfl⟩, hr3⟩
      obtain ⟨c0, c1, c2, c3, c4⟩ := hr3.cells
      have HR3 := Lib.hid hr3
      clear hr3
      go_wp2_with fail
      refine (setAt 4 _ rfl (by decide) _ _).mono ?_
      rintro e w' ⟨rfl, rfl⟩
      go_wp2_with fail
      refine (letter_any _ _ _ _).mono ?_
      rintro e w' ⟨rfl, rfl⟩
      rw [HE2.out]
      go_wp2_with fail
      refine (HR3.out.write (by omega) (by omega) (by have := HL.out; rw [List.length_append, HY1.out.1]; simp; simp at this; omega) y2 (by rw [HY2.out.2]; decide)).mono ?_
      rintro e w4 ⟨⟨v4, rfl⟩, hr4⟩
      clear c0 c1 c2 c3 c4
      obtain ⟨c0, c1, c2, c3, c4⟩ := hr4.cells
      have HR4 := Lib.hid hr4
      clear hr4
      go_wp2_with fail
      refine (last_any n.mode 3 10 115 83 _ (by decide) (by decide)).mono ?_
      rintro e w5 ⟨rfl, hb5⟩
      have HB5 := Lib.hid (HR4.out.bld.keep hb5)
      clear hb5 c0 c1 c2 c3 c4
      go_wp2_with fail
      refine (HB5.out.writeString (by have := HL.out; rw [List.length_append, List.length_append, HY1.out.1, HY2.out.1]; simp; simp at this; omega) _ (by rw [txt_size]; simp)).mono ?_
      rintro e w6 ⟨⟨v6, rfl⟩, hb6, _⟩
      have HB6 := Lib.hid hb6
      clear hb6
      go_wp2_with fail
      go_roundw
      case rel =>
        refine ⟨2, by decide, rfl, ?_⟩
        have := HB6.out
        rw [HY1.out.1, HY2.out.1, txt_list, ← HKE.out] at this
        simpa [partL, clsL] using this
      case measure => decide
    · have hi := class2
      have hr : Rnd W0 (w.heap.size + 1) wr.heap.size w.heap.size n.mode 0 9 116 84 (kl ++ partL n.mode 2) (wr.alloc (copyO 0 9 116 84)) :=
        ⟨HB.out.keep (by (repeat (first | (with_reducible apply Below.setCell (hp := ?_)) | (with_reducible apply Below.alloc (hB := ?_)) | (with_reducible exact Below.refl _ _) | (simp; done) | omega))), heap_alloc_new _ _, by rw [World.cell?_alloc_old _ _ _ (by show w.heap.size ≠ wr.heap.size; omega)]; exact hc⟩
      have hlen : (kl ++ partL n.mode 2).length ≤ 20 := by rw [List.length_append, HKL.out]; exact Nat.le_of_ble_eq_true rfl
      have HL := Lib.hid hlen
      clear hlen
      have hlt2 : w.heap.size < wr.heap.size := by omega
      have HR0 := Lib.hid hr
      clear hr
      obtain ⟨y1, e1⟩ : ∃ y : ByteArray, (if bitB n.mode 2 = true then (⟨#[114]⟩ : ByteArray) else ⟨#[45]⟩) = y := ⟨_, rfl⟩
      obtain ⟨y2, e2⟩ : ∃ y : ByteArray, (if bitB n.mode 1 = true then (⟨#[119]⟩ : ByteArray) else ⟨#[45]⟩) = y := ⟨_, rfl⟩
      have HY1 := Lib.hid (show y1.data.toList = [if bitB n.mode 2 then 114 else 45] ∧ y1.size = 1 by rw [← e1]; cases bitB n.mode 2 <;> exact ⟨rfl, rfl⟩)
      have HY2 := Lib.hid (show y2.data.toList = [if bitB n.mode 1 then 119 else 45] ∧ y2.size = 1 by rw [← e2]; cases bitB n.mode 1 <;> exact ⟨rfl, rfl⟩)
      have HE1 := Lib.hid e1
      have HE2 := Lib.hid e2
      clear e1 e2
      go_wp2_with fail
      refine (setAt 2 _ rfl (by decide) _ _).mono ?_
      rintro e w' ⟨rfl, rfl⟩
      go_wp2_with fail
      refine (letter_any _ _ _ _).mono ?_
      rintro e w' ⟨rfl, rfl⟩
      rw [HE1.out]
      go_wp2_with fail
      refine (HR0.out.write (by omega) (by omega) (by have := HL.out; omega) y1 (by rw [HY1.out.2]; decide)).mono ?_
      rintro e w3 ⟨⟨v3, rfl⟩, hr3⟩
      obtain ⟨c0, c1, c2, c3, c4⟩ := hr3.cells
      have HR3 := Lib.hid hr3
      clear hr3
      go_wp2_with fail
      refine (setAt 1 _ rfl (by decide) _ _).mono ?_
      rintro e w' ⟨rfl, rfl⟩
      go_wp2_with fail
      refine (letter_any _ _ _ _).mono ?_
      rintro e w' ⟨rfl, rfl⟩
      rw [HE2.out]
      go_wp2_with fail
      refine (HR3.out.write (by omega) (by omega) (by have := HL.out; rw [List.length_append, HY1.out.1]; simp; simp at this; omega) y2 (by rw [HY2.out.2]; decide)).mono ?_
      rintro e w4 ⟨⟨v4, rfl⟩, hr4⟩
      clear c0 c1 c2 c3 c4
      obtain ⟨c0, c1, c2, c3, c4⟩ := hr4.cells
      have HR4 := Lib.hid hr4
      clear hr4
      go_wp2_with fail
      refine (last_any n.mode 0 9 116 84 _ (by decide) (by decide)).mono ?_
      rintro e w5 ⟨rfl, hb5⟩
      have HB5 := Lib.hid (HR4.out.bld.keep hb5)
      clear hb5 c0 c1 c2 c3 c4
      go_wp2_with fail
      refine (HB5.out.writeString (by have := HL.out; rw [List.length_append, List.length_append, HY1.out.1, HY2.out.1]; simp; simp at this; omega) _ (by rw [txt_size]; simp)).mono ?_
      rintro e w6 ⟨⟨v6, rfl⟩, hb6, _⟩
      have HB6 := Lib.hid hb6
      clear hb6
      go_wp2_with fail
      go_roundw
      case rel =>
        refine ⟨3, by decide, rfl, ?_⟩
        have := HB6.out
        rw [HY1.out.1, HY2.out.1, txt_list, ← HKE.out] at this
        simpa [partL, clsL] using this
      case measure => decide
    · go_wp2_with fail
      refine HB.out.string.mono ?_
      rintro e w3 ⟨rfl, hb3⟩
      go_wp2_with fail
      go_ret
      exact ⟨by rw [HR.out]; rfl, HBW.out.trans (hb3.mono (by omega))⟩
end Go.Proofs.YtfhagjnlliafiaaGreatDoor.P
