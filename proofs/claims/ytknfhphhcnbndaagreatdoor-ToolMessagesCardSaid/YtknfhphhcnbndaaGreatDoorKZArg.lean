/-
  The bits of a number; a node as a value; the table of the classes; what perm's set, letter, searched and bitsFor return. Conditions: the table of classes lies as its text lays it; numbers are int64s.
  What perm's searched returns: may anybody search. Conditions: the table of classes lies as its text lays it.
  What perm's bitsFor and May return. Conditions: the table of classes lies as its text lays it.
  What the listed package-level variables give the walks: the table of classes. Conditions: each fact's own.
  What path.Names and the reference's Names return: a path's names, and whether it begins, and ends, with a slash. Conditions: at most 100000 bytes.
  What FS.List, Link, Node, Over, Up return, of whatever number: of the model's nodes. Conditions: the file system lies in memory; at most 1000000 entries a directory.
  Where a path leads: the walk over the model's nodes, names ahead of names. Conditions: none.
  What the listed package-level variables give the laws of tools: the table of classes; the library's number. Conditions: none.
-/
import Derived.Test.YtknfhphhcnbndaaGreatDoorRows
import Derived.WalkKit
import Derived.WalkSpells
import Derived.WalkLawsBesides
import Derived.Lib.Hide
import Derived.Lib.OthersKept
import Derived.Deep.QuietTactic
import Derived.BigQuiet
import Derived.Deep.WholeRow
import Derived.Deep.MidRow
import Derived.Test.YtknfhphhcnbndaaGreatDoorCards
import Derived.Test.YtknfhphhcnbndaaGreatDoorTie
import Derived.Test.YtknfhphhcnbndaaGreatDoorKVArg
import Derived.Lib.LaidTab
import Derived.ChangeOld
import Derived.Below
import Derived.LaidMore
import Derived.ChangeSame
import Derived.Lay
import Derived.Deep.DeepHandedRow
import Derived.Deep.DeepWitnessRowRef
import Derived.Stop.LaidErr
import Derived.Test.YtknfhphhcnbndaaGreatDoorKHNamesM
import Derived.Test.YtknfhphhcnbndaaGreatDoorShelf
import Derived.OwnWalk
import Derived.Deep.AppendLies
import Derived.Shelf.GgClosure.Gives
import Derived.Test.YtknfhphhcnbndaaGreatDoorKVRefApp
import Derived.Lib.LazyBuf
import Derived.Test.YtknfhphhcnbndaaGreatDoorKAStep
import Derived.ProofKit
import Derived.HandedShaped
import Derived.Shelf.Vars
set_option linter.unusedVariables false
set_option linter.unusedSimpArgs false
namespace Go.Proofs.YtknfhphhcnbndaaGreatDoor.P
open Go.RowKit

/-- The k-th bit of a number, from the lowest one. -/
def bitB (b : Int) (k : Nat) : Bool := decide (b / 2 ^ k % 2 = 1)
theorem and_one (x : Int) : bits .and .i64 x 1 = x % 2 := by
  have h : ((BitVec.ofInt 64 x &&& BitVec.ofInt 64 1).toNat : Int) = x % 2 := by
    rw [BitVec.toNat_and, show (BitVec.ofInt 64 1).toNat = 1 from by decide, Nat.and_one_is_mod, BitVec.toNat_ofInt]
    omega
  have h2 : bits .and .i64 x 1 = IntKind.i64.wrap ((BitVec.ofInt 64 x &&& BitVec.ofInt 64 1).toNat : Int) := rfl
  rw [h2, h]
  have e : x % 2 = 0 ∨ x % 2 = 1 := by omega
  rcases e with e | e <;> rw [e] <;> decide
theorem pret_bool {a b : Bool} (h : a = b) : Ending.returned (.bool a) = .returned (.bool b) := by rw [h]

theorem pset_any (b : Int) (k : Nat) (w : World) (hk : k ≤ 62) :
    Calls Tryz.prog 226 #[.int .i64 b, .int .i64 (k : Int)] w fun e w' => e = .returned (.bool (bitB b k)) ∧ w = w' := by
  have hb : (bits BinOp.and IntKind.i64 (b / 2 ^ k) 1 == 1) = bitB b k := by
    rw [and_one]
    unfold bitB
    by_cases h : b / 2 ^ k % 2 = 1
    · rw [decide_eq_true h, h]; rfl
    · rw [decide_eq_false h]; exact beq_eq_false_iff_ne.2 h
  have HB := Lib.hid hb
  clear hb
  go_enter Tryz.func226, Tryz.ntmps226
  go_wp2
  go_ret
  exact ⟨pret_bool HB.out, rfl⟩
theorem setAt (k : Nat) (i : Int) (h : i = (k : Int)) (hk : k ≤ 62) (b : Int) (w : World) :
    Calls Tryz.prog 226 #[.int .i64 b, .int .i64 i] w fun e w' => e = .returned (.bool (bitB b k)) ∧ w = w' := by subst h; exact pset_any b k w hk

/-- A node: its thirteen cells. -/
structure Nv where
  dev : Int
  ino : Int
  kind : Int
  mode : Int
  uid : Int
  gid : Int
  size : Int
  blocks : Int
  links : Int
  ta : Int
  tb : Int
  tc : Int
  target : ByteArray
def nodeV (n : Nv) : Value := .agg #[.int .i64 n.dev, .int .i64 n.ino, .int .i64 n.kind, .int .i64 n.mode, .int .i64 n.uid, .int .i64 n.gid, .int .i64 n.size, .int .i64 n.blocks, .int .i64 n.links, .int .i64 n.ta, .int .i64 n.tb, .int .i64 n.tc, .string n.target]

/-- The table of classes. -/
def classCells : List Value := [.int .i64 6, .int .i64 11, .string ⟨#[115]⟩, .string ⟨#[83]⟩, .int .i64 3, .int .i64 10, .string ⟨#[115]⟩, .string ⟨#[83]⟩, .int .i64 0, .int .i64 9, .string ⟨#[116]⟩, .string ⟨#[84]⟩]
structure Tab (w : World) : Prop where
  cell : w.rangeAt 5 0 classCells
theorem cell_lt {w : World} {a : Addr} {v : Value} (h : w.cell? a = some v) : a.block < w.heap.size := by
  apply Classical.byContradiction
  intro hn
  have : w.heap[a.block]? = none := Array.getElem?_eq_none (by omega)
  unfold World.cell? at h
  simp [this] at h
theorem Tab.keep {w w' : World} (h : Tab w) (hb : Below w.heap.size w w') : Tab w' :=
  ⟨fun j v hj => by rw [hb.cell (p := ⟨5, 0 + j, none⟩) (cell_lt (h.cell j v hj))]; exact h.cell j v hj⟩
theorem pbelow_two {w a b : World} (h : Below w.heap.size w a) (k : Below a.heap.size a b) : Below w.heap.size w b := h.trans (k.mono h.size)
theorem sizeClasses : (Tryz.prog.info? 328).map (·.size) = some classCells.length := by kernel_rfl
theorem class0 : ∀ w : World, (Instr.index 328 (.agg classCells.toArray) (.int .i64 0)).run Tryz.prog w = .ok (.agg #[.int .i64 6, .int .i64 11, .string ⟨#[115]⟩, .string ⟨#[83]⟩]) w := fun _ => by kernel_rfl
theorem class1 : ∀ w : World, (Instr.index 328 (.agg classCells.toArray) (.int .i64 1)).run Tryz.prog w = .ok (.agg #[.int .i64 3, .int .i64 10, .string ⟨#[115]⟩, .string ⟨#[83]⟩]) w := fun _ => by kernel_rfl
theorem class2 : ∀ w : World, (Instr.index 328 (.agg classCells.toArray) (.int .i64 2)).run Tryz.prog w = .ok (.agg #[.int .i64 0, .int .i64 9, .string ⟨#[116]⟩, .string ⟨#[84]⟩]) w := fun _ => by kernel_rfl

def anyB (m : Int) : Bool := bitB m 6 || bitB m 3 || bitB m 0
end Go.Proofs.YtknfhphhcnbndaaGreatDoor.P

namespace Go.Proofs.YtknfhphhcnbndaaGreatDoor.P
open Go.RowKit

/-- Before round k: nobody of the first k classes searches; the table and the box are as they were. -/
def SRel (W : World) (b : Nat) (m : Int) (v : Value) (w : World) : Prop :=
  ∃ k : Nat, k ≤ 3 ∧ v = .int .i64 (k : Int) ∧ Hid ((0 < k → bitB m 6 = false) ∧ (1 < k → bitB m 3 = false) ∧ (2 < k → bitB m 0 = false)) ∧ Below W.heap.size W w ∧ w.cell? ⟨b, 3, none⟩ = some (.int .i64 m)

set_option maxHeartbeats 1000000 in
theorem searched_any (n : Nv) (w : World) (ht : Tab w) :
    Calls Tryz.prog 271 #[nodeV n] w fun e w' => e = .returned (.bool (anyB n.mode)) ∧ Below w.heap.size w w' := by
  have HT := Lib.hid ht
  clear ht
  unfold nodeV
  go_enter Tryz.func271, Tryz.ntmps271
  go_wp2_with (refine wpList_load_mid rfl 328 (.global 5) rfl 5 0 rfl classCells _ (HT.out.keep ((Below.refl _ _).alloc (Nat.le_refl _) _)).cell Tryz.underlying328 rfl sizeClasses ?_)
  go_loopw [6] (SRel w w.heap.size n.mode) (fun v _ => (3 - intOf v).toNat)
  case atStart => exact ⟨0, by decide, rfl, Lib.hid ⟨by omega, by omega, by omega⟩, (Below.refl _ _).alloc (Nat.le_refl _) _, by rw [World.cell?_alloc_at _ _ _ _ rfl]; rfl⟩
  case round =>
    obtain ⟨k, hk, rfl, hz, hb, hc⟩ := hrel
    have hlt := cell_lt hc
    have hlt' : w.heap.size < wr.heap.size := hlt
    clear hlt
    have HB := Lib.hid hb
    clear hb
    have hk' : k = 0 ∨ k = 1 ∨ k = 2 ∨ k = 3 := by omega
    clear hk
    rcases hk' with rfl | rfl | rfl | rfl
    · have hi := class0
      by_cases hq : bitB n.mode 6 = true
      · have HA := Lib.hid (show anyB n.mode = true by unfold anyB; rw [hq]; simp)
        have HQ := Lib.hid hq
        clear hq
        go_wp2_with (go_at_call 226; refine (setAt 6 _ rfl (by decide) _ _).mono ?_; rintro e w' ⟨rfl, rfl⟩; rw [HQ.out])
        go_ret
        refine ⟨pret_bool HA.out.symm, ?_⟩
        refine pbelow_two HB.out ?_
        repeat (first | (with_reducible apply Below.setCell (hp := ?_)) | (with_reducible apply Below.alloc (hB := ?_)) | (with_reducible exact Below.refl _ _) | (simp; done))
      · have hq' : bitB n.mode 6 = false := by simpa using hq
        have HQ := Lib.hid hq'
        have HZ : Hid ((0 < 1 → bitB n.mode 6 = false) ∧ (1 < 1 → bitB n.mode 3 = false) ∧ (2 < 1 → bitB n.mode 0 = false)) := Lib.hid (by have := hz.out; simp_all)
        clear hq hq' hz
        go_wp2_with (go_at_call 226; refine (setAt 6 _ rfl (by decide) _ _).mono ?_; rintro e w' ⟨rfl, rfl⟩; rw [HQ.out])
        go_roundw
        case rel =>
          refine ⟨1, by decide, rfl, HZ, ?_, ?_⟩
          · refine pbelow_two HB.out ?_
            repeat (first | (with_reducible apply Below.setCell (hp := ?_)) | (with_reducible apply Below.alloc (hB := ?_)) | (with_reducible exact Below.refl _ _) | (simp; done))
          · go_simp
        case measure => decide
    · have hi := class1
      by_cases hq : bitB n.mode 3 = true
      · have HA := Lib.hid (show anyB n.mode = true by unfold anyB; rw [hq]; simp)
        have HQ := Lib.hid hq
        clear hq
        go_wp2_with (go_at_call 226; refine (setAt 3 _ rfl (by decide) _ _).mono ?_; rintro e w' ⟨rfl, rfl⟩; rw [HQ.out])
        go_ret
        refine ⟨pret_bool HA.out.symm, ?_⟩
        refine pbelow_two HB.out ?_
        repeat (first | (with_reducible apply Below.setCell (hp := ?_)) | (with_reducible apply Below.alloc (hB := ?_)) | (with_reducible exact Below.refl _ _) | (simp; done))
      · have hq' : bitB n.mode 3 = false := by simpa using hq
        have HQ := Lib.hid hq'
        have HZ : Hid ((0 < 2 → bitB n.mode 6 = false) ∧ (1 < 2 → bitB n.mode 3 = false) ∧ (2 < 2 → bitB n.mode 0 = false)) := Lib.hid (by have := hz.out; simp_all)
        clear hq hq' hz
        go_wp2_with (go_at_call 226; refine (setAt 3 _ rfl (by decide) _ _).mono ?_; rintro e w' ⟨rfl, rfl⟩; rw [HQ.out])
        go_roundw
        case rel =>
          refine ⟨2, by decide, rfl, HZ, ?_, ?_⟩
          · refine pbelow_two HB.out ?_
            repeat (first | (with_reducible apply Below.setCell (hp := ?_)) | (with_reducible apply Below.alloc (hB := ?_)) | (with_reducible exact Below.refl _ _) | (simp; done))
          · go_simp
        case measure => decide
    · have hi := class2
      by_cases hq : bitB n.mode 0 = true
      · have HA := Lib.hid (show anyB n.mode = true by unfold anyB; rw [hq]; simp)
        have HQ := Lib.hid hq
        clear hq
        go_wp2_with (go_at_call 226; refine (setAt 0 _ rfl (by decide) _ _).mono ?_; rintro e w' ⟨rfl, rfl⟩; rw [HQ.out])
        go_ret
        refine ⟨pret_bool HA.out.symm, ?_⟩
        refine pbelow_two HB.out ?_
        repeat (first | (with_reducible apply Below.setCell (hp := ?_)) | (with_reducible apply Below.alloc (hB := ?_)) | (with_reducible exact Below.refl _ _) | (simp; done))
      · have hq' : bitB n.mode 0 = false := by simpa using hq
        have HQ := Lib.hid hq'
        have HZ : Hid ((0 < 3 → bitB n.mode 6 = false) ∧ (1 < 3 → bitB n.mode 3 = false) ∧ (2 < 3 → bitB n.mode 0 = false)) := Lib.hid (by have := hz.out; simp_all)
        clear hq hq' hz
        go_wp2_with (go_at_call 226; refine (setAt 0 _ rfl (by decide) _ _).mono ?_; rintro e w' ⟨rfl, rfl⟩; rw [HQ.out])
        go_roundw
        case rel =>
          refine ⟨3, by decide, rfl, HZ, ?_, ?_⟩
          · refine pbelow_two HB.out ?_
            repeat (first | (with_reducible apply Below.setCell (hp := ?_)) | (with_reducible apply Below.alloc (hB := ?_)) | (with_reducible exact Below.refl _ _) | (simp; done))
          · go_simp
        case measure => decide
    · have HA := Lib.hid (show anyB n.mode = false by obtain ⟨a, b, c⟩ := hz.out; unfold anyB; rw [a (by decide), b (by decide), c (by decide)]; rfl)
      clear hz
      go_wp2
      go_ret
      exact ⟨pret_bool HA.out.symm, HB.out⟩
end Go.Proofs.YtknfhphhcnbndaaGreatDoor.P

namespace Go.Proofs.YtknfhphhcnbndaaGreatDoor.P
open Go.RowKit

def credV (u g : Int) : Value := .agg #[.int .i64 u, .int .i64 g]
def bitsP (n : Nv) (u g : Int) : Int := if u = 0 then (if n.kind = 2 ∨ anyB n.mode = true then 7 else 6) else if u = n.uid then n.mode / 2 ^ 6 else if g = n.gid then n.mode / 2 ^ 3 else n.mode 
theorem pret_int {k : IntKind} {a b : Int} (h : a = b) : Ending.returned (.int k a) = .returned (.int k b) := by rw [h]

set_option maxHeartbeats 1000000 in
theorem bitsFor_any (n : Nv) (u g : Int) (w : World) (ht : Tab w) :
    Calls Tryz.prog 225 #[nodeV n, credV u g] w fun e w' => e = .returned (.int .i64 (bitsP n u g)) ∧ Below w.heap.size w w' := by
  have HT := Lib.hid ht
  clear ht
  unfold nodeV credV
  by_cases h0 : u = 0
  · subst h0
    by_cases h2 : n.kind = 2
    · have HR := Lib.hid (show bitsP n 0 g = 7 by unfold bitsP; rw [if_pos rfl, if_pos (.inl h2)])
      have t2 : (n.kind == 2) = true := by rw [h2]; rfl
      clear h2
      go_enter Tryz.func225, Tryz.ntmps225
      go_wp2
      go_ret
      exact ⟨pret_int HR.out.symm, by (repeat (first | (with_reducible apply Below.setCell (hp := ?_)) | (with_reducible apply Below.alloc (hB := ?_)) | (with_reducible exact Below.refl _ _) | (simp; done) | omega))⟩
    · have t2 : (n.kind == 2) = false := beq_eq_false_iff_ne.2 h2
      cases hq : anyB n.mode
      · have HR := Lib.hid (show bitsP n 0 g = 6 by unfold bitsP; rw [if_pos rfl, if_neg (by rw [hq]; simp [h2])])
        have HS := Lib.hid (searched_any n)
        rw [hq] at HS
        unfold nodeV at HS
        clear h2 hq
        go_enter Tryz.func225, Tryz.ntmps225
        go_wp2_with fail
        refine (HS.out _ (HT.out.keep (by (repeat (first | (with_reducible apply Below.setCell (hp := ?_)) | (with_reducible apply Below.alloc (hB := ?_)) | (with_reducible exact Below.refl _ _) | (simp; done) | omega))))).mono ?_
        rintro e w1 ⟨rfl, hb1⟩
        have HB := Lib.hid (show Below w.heap.size w w1 from (show Below w.heap.size w _ from by (repeat (first | (with_reducible apply Below.setCell (hp := ?_)) | (with_reducible apply Below.alloc (hB := ?_)) | (with_reducible exact Below.refl _ _) | (simp; done) | omega))).trans (hb1.mono (by simp; omega)))
        have c1 : w1.cell? ⟨w.heap.size + 1, 0, none⟩ = some (.int .i64 0) := by rw [hb1.cell (by simp)]; go_simp
        clear hb1
        go_wp2_with fail
        go_ret
        exact ⟨pret_int HR.out.symm, HB.out⟩
      · have HR := Lib.hid (show bitsP n 0 g = 7 by unfold bitsP; rw [if_pos rfl, if_pos (.inr hq)])
        have HS := Lib.hid (searched_any n)
        rw [hq] at HS
        unfold nodeV at HS
        clear h2 hq
        go_enter Tryz.func225, Tryz.ntmps225
        go_wp2_with fail
        refine (HS.out _ (HT.out.keep (by (repeat (first | (with_reducible apply Below.setCell (hp := ?_)) | (with_reducible apply Below.alloc (hB := ?_)) | (with_reducible exact Below.refl _ _) | (simp; done) | omega))))).mono ?_
        rintro e w1 ⟨rfl, hb1⟩
        have HB := Lib.hid (show Below w.heap.size w w1 from (show Below w.heap.size w _ from by (repeat (first | (with_reducible apply Below.setCell (hp := ?_)) | (with_reducible apply Below.alloc (hB := ?_)) | (with_reducible exact Below.refl _ _) | (simp; done) | omega))).trans (hb1.mono (by simp; omega)))
        have c1 : w1.cell? ⟨w.heap.size + 1, 0, none⟩ = some (.int .i64 0) := by rw [hb1.cell (by simp)]; go_simp
        clear hb1
        go_wp2_with fail
        go_ret
        exact ⟨pret_int HR.out.symm, HB.out⟩
  · have t0 : (u == 0) = false := beq_eq_false_iff_ne.2 h0
    by_cases hu : u = n.uid
    · have HR := Lib.hid (show bitsP n u g = n.mode / 2 ^ 6 by unfold bitsP; rw [if_neg h0, if_pos hu])
      have t1 : (u == n.uid) = true := beq_iff_eq.2 hu
      clear hu h0
      go_enter Tryz.func225, Tryz.ntmps225
      go_wp2
      go_ret
      exact ⟨pret_int HR.out.symm, by (repeat (first | (with_reducible apply Below.setCell (hp := ?_)) | (with_reducible apply Below.alloc (hB := ?_)) | (with_reducible exact Below.refl _ _) | (simp; done) | omega))⟩
    · have t1 : (u == n.uid) = false := beq_eq_false_iff_ne.2 hu
      by_cases hg : g = n.gid
      · have HR := Lib.hid (show bitsP n u g = n.mode / 2 ^ 3 by unfold bitsP; rw [if_neg h0, if_neg hu, if_pos hg])
        have t3 : (g == n.gid) = true := beq_iff_eq.2 hg
        clear hu h0 hg
        go_enter Tryz.func225, Tryz.ntmps225
        go_wp2
        go_ret
        exact ⟨pret_int HR.out.symm, by (repeat (first | (with_reducible apply Below.setCell (hp := ?_)) | (with_reducible apply Below.alloc (hB := ?_)) | (with_reducible exact Below.refl _ _) | (simp; done) | omega))⟩
      · have HR := Lib.hid (show bitsP n u g = n.mode by unfold bitsP; rw [if_neg h0, if_neg hu, if_neg hg])
        have t3 : (g == n.gid) = false := beq_eq_false_iff_ne.2 hg
        clear hu h0 hg
        go_enter Tryz.func225, Tryz.ntmps225
        go_wp2
        go_ret
        exact ⟨pret_int HR.out.symm, by (repeat (first | (with_reducible apply Below.setCell (hp := ?_)) | (with_reducible apply Below.alloc (hB := ?_)) | (with_reducible exact Below.refl _ _) | (simp; done) | omega))⟩

def mayB (b want : Int) : Bool := (!bitB want 2 || bitB b 2) && (!bitB want 1 || bitB b 1) && (!bitB want 0 || bitB b 0)
/-- Before the round for bit a: all that is wanted of the bits above it is there. -/
def MRel (W : World) (b want : Int) (v : Value) (w : World) : Prop :=
  ∃ a : Int, -1 ≤ a ∧ a ≤ 2 ∧ v = .int .i64 a ∧ Hid ((a < 2 → (!bitB want 2 || bitB b 2) = true) ∧ (a < 1 → (!bitB want 1 || bitB b 1) = true) ∧ (a < 0 → (!bitB want 0 || bitB b 0) = true)) ∧ Below W.heap.size W w

set_option maxHeartbeats 1000000 in
theorem may_any (n : Nv) (u g want : Int) (w : World) (ht : Tab w) :
    Calls Tryz.prog 168 #[nodeV n, credV u g, .int .i64 want] w fun e w' => e = .returned (.bool (mayB (bitsP n u g) want)) ∧ Below w.heap.size w w' := by
  have HT := Lib.hid ht
  clear ht
  obtain ⟨b, hbp⟩ : ∃ b, bitsP n u g = b := ⟨_, rfl⟩
  have HC := Lib.hid (bitsFor_any n u g)
  rw [hbp] at HC
  rw [hbp]
  clear hbp
  unfold nodeV credV at HC
  unfold nodeV credV
  go_enter Tryz.func168, Tryz.ntmps168
  go_wp2_with fail
  refine (HC.out _ (HT.out.keep (by (repeat (first | (with_reducible apply Below.setCell (hp := ?_)) | (with_reducible apply Below.alloc (hB := ?_)) | (with_reducible exact Below.refl _ _) | (simp; done) | omega))))).mono ?_
  rintro e w1 ⟨rfl, hb1⟩
  have HB := Lib.hid (show Below w.heap.size w w1 from (show Below w.heap.size w _ from by (repeat (first | (with_reducible apply Below.setCell (hp := ?_)) | (with_reducible apply Below.alloc (hB := ?_)) | (with_reducible exact Below.refl _ _) | (simp; done) | omega))).trans (hb1.mono (by simp; omega)))
  clear hb1
  go_wp2_with fail
  go_loopw [8] (MRel w b want) (fun v _ => (intOf v + 1).toNat)
  case atStart => exact ⟨2, by decide, by decide, rfl, Lib.hid ⟨by omega, by omega, by omega⟩, HB.out⟩
  case round =>
    clear HB
    obtain ⟨a, ha0, ha1, rfl, hz, hb⟩ := hrel
    have HB := Lib.hid hb
    clear hb
    have ha : a = 2 ∨ a = 1 ∨ a = 0 ∨ a = -1 := by omega
    clear ha0 ha1
    rcases ha with rfl | rfl | rfl | rfl
    · have set1 := fun w' => setAt 2 2 rfl (by decide) want w'
      have set2 := fun w' => setAt 2 2 rfl (by decide) b w'
      cases hq : bitB want 2
      · have HQ := Lib.hid hq
        have HZ : Hid (((1 : Int) < 2 → (!bitB want 2 || bitB b 2) = true) ∧ ((1 : Int) < 1 → (!bitB want 1 || bitB b 1) = true) ∧ ((1 : Int) < 0 → (!bitB want 0 || bitB b 0) = true)) := Lib.hid (by have := hz.out; simp_all)
        have H1 := Lib.hid set1
        clear hq hz set1 set2
        go_wp2_with (go_at_call 226; refine (H1.out _).mono ?_; rintro e w' ⟨rfl, rfl⟩; rw [HQ.out])
        go_roundw
        case rel => exact ⟨1, by decide, by decide, rfl, HZ, HB.out⟩
        case measure => decide
      · cases hp : bitB b 2
        · have HF := Lib.hid (show mayB b want = false by unfold mayB; rw [hq, hp]; simp)
          have HQ := Lib.hid hq
          have HP := Lib.hid hp
          have H1 := Lib.hid set1
          have H2 := Lib.hid set2
          clear hq hp hz set1 set2
          go_wp2_with fail
          refine (H1.out _).mono ?_
          rintro e w' ⟨rfl, rfl⟩
          rw [HQ.out]
          go_wp2_with fail
          refine (H2.out _).mono ?_
          rintro e w' ⟨rfl, rfl⟩
          rw [HP.out]
          go_wp2_with fail
          go_ret
          exact ⟨pret_bool HF.out.symm, HB.out⟩
        · have HQ := Lib.hid hq
          have HP := Lib.hid hp
          have HZ : Hid (((1 : Int) < 2 → (!bitB want 2 || bitB b 2) = true) ∧ ((1 : Int) < 1 → (!bitB want 1 || bitB b 1) = true) ∧ ((1 : Int) < 0 → (!bitB want 0 || bitB b 0) = true)) := Lib.hid (by have := hz.out; simp_all)
          have H1 := Lib.hid set1
          have H2 := Lib.hid set2
          clear hq hp hz set1 set2
          go_wp2_with fail
          refine (H1.out _).mono ?_
          rintro e w' ⟨rfl, rfl⟩
          rw [HQ.out]
          go_wp2_with fail
          refine (H2.out _).mono ?_
          rintro e w' ⟨rfl, rfl⟩
          rw [HP.out]
          go_wp2_with fail
          go_roundw
          case rel => exact ⟨1, by decide, by decide, rfl, HZ, HB.out⟩
          case measure => decide
    · have set1 := fun w' => setAt 1 1 rfl (by decide) want w'
      have set2 := fun w' => setAt 1 1 rfl (by decide) b w'
      cases hq : bitB want 1
      · have HQ := Lib.hid hq
        have HZ : Hid (((0 : Int) < 2 → (!bitB want 2 || bitB b 2) = true) ∧ ((0 : Int) < 1 → (!bitB want 1 || bitB b 1) = true) ∧ ((0 : Int) < 0 → (!bitB want 0 || bitB b 0) = true)) := Lib.hid (by have := hz.out; simp_all)
        have H1 := Lib.hid set1
        clear hq hz set1 set2
        go_wp2_with (go_at_call 226; refine (H1.out _).mono ?_; rintro e w' ⟨rfl, rfl⟩; rw [HQ.out])
        go_roundw
        case rel => exact ⟨0, by decide, by decide, rfl, HZ, HB.out⟩
        case measure => decide
      · cases hp : bitB b 1
        · have HF := Lib.hid (show mayB b want = false by unfold mayB; rw [hq, hp]; simp)
          have HQ := Lib.hid hq
          have HP := Lib.hid hp
          have H1 := Lib.hid set1
          have H2 := Lib.hid set2
          clear hq hp hz set1 set2
          go_wp2_with fail
          refine (H1.out _).mono ?_
          rintro e w' ⟨rfl, rfl⟩
          rw [HQ.out]
          go_wp2_with fail
          refine (H2.out _).mono ?_
          rintro e w' ⟨rfl, rfl⟩
          rw [HP.out]
          go_wp2_with fail
          go_ret
          exact ⟨pret_bool HF.out.symm, HB.out⟩
        · have HQ := Lib.hid hq
          have HP := Lib.hid hp
          have HZ : Hid (((0 : Int) < 2 → (!bitB want 2 || bitB b 2) = true) ∧ ((0 : Int) < 1 → (!bitB want 1 || bitB b 1) = true) ∧ ((0 : Int) < 0 → (!bitB want 0 || bitB b 0) = true)) := Lib.hid (by have := hz.out; simp_all)
          have H1 := Lib.hid set1
          have H2 := Lib.hid set2
          clear hq hp hz set1 set2
          go_wp2_with fail
          refine (H1.out _).mono ?_
          rintro e w' ⟨rfl, rfl⟩
          rw [HQ.out]
          go_wp2_with fail
          refine (H2.out _).mono ?_
          rintro e w' ⟨rfl, rfl⟩
          rw [HP.out]
          go_wp2_with fail
          go_roundw
          case rel => exact ⟨0, by decide, by decide, rfl, HZ, HB.out⟩
          case measure => decide
    · have set1 := fun w' => setAt 0 0 rfl (by decide) want w'
      have set2 := fun w' => setAt 0 0 rfl (by decide) b w'
      cases hq : bitB want 0
      · have HQ := Lib.hid hq
        have HZ : Hid (((-1 : Int) < 2 → (!bitB want 2 || bitB b 2) = true) ∧ ((-1 : Int) < 1 → (!bitB want 1 || bitB b 1) = true) ∧ ((-1 : Int) < 0 → (!bitB want 0 || bitB b 0) = true)) := Lib.hid (by have := hz.out; simp_all)
        have H1 := Lib.hid set1
        clear hq hz set1 set2
        go_wp2_with (go_at_call 226; refine (H1.out _).mono ?_; rintro e w' ⟨rfl, rfl⟩; rw [HQ.out])
        go_roundw
        case rel => exact ⟨-1, by decide, by decide, rfl, HZ, HB.out⟩
        case measure => decide
      · cases hp : bitB b 0
        · have HF := Lib.hid (show mayB b want = false by unfold mayB; rw [hq, hp]; simp)
          have HQ := Lib.hid hq
          have HP := Lib.hid hp
          have H1 := Lib.hid set1
          have H2 := Lib.hid set2
          clear hq hp hz set1 set2
          go_wp2_with fail
          refine (H1.out _).mono ?_
          rintro e w' ⟨rfl, rfl⟩
          rw [HQ.out]
          go_wp2_with fail
          refine (H2.out _).mono ?_
          rintro e w' ⟨rfl, rfl⟩
          rw [HP.out]
          go_wp2_with fail
          go_ret
          exact ⟨pret_bool HF.out.symm, HB.out⟩
        · have HQ := Lib.hid hq
          have HP := Lib.hid hp
          have HZ : Hid (((-1 : Int) < 2 → (!bitB want 2 || bitB b 2) = true) ∧ ((-1 : Int) < 1 → (!bitB want 1 || bitB b 1) = true) ∧ ((-1 : Int) < 0 → (!bitB want 0 || bitB b 0) = true)) := Lib.hid (by have := hz.out; simp_all)
          have H1 := Lib.hid set1
          have H2 := Lib.hid set2
          clear hq hp hz set1 set2
          go_wp2_with fail
          refine (H1.out _).mono ?_
          rintro e w' ⟨rfl, rfl⟩
          rw [HQ.out]
          go_wp2_with fail
          refine (H2.out _).mono ?_
          rintro e w' ⟨rfl, rfl⟩
          rw [HP.out]
          go_wp2_with fail
          go_roundw
          case rel => exact ⟨-1, by decide, by decide, rfl, HZ, HB.out⟩
          case measure => decide
    · have HA := Lib.hid (show mayB b want = true by obtain ⟨x, y, z⟩ := hz.out; unfold mayB; rw [x (by decide), y (by decide), z (by decide)]; rfl)
      clear hz
      go_wp2
      go_ret
      exact ⟨pret_bool HA.out.symm, HB.out⟩
end Go.Proofs.YtknfhphhcnbndaaGreatDoor.P

namespace Go.Proofs.YtknfhphhcnbndaaGreatDoor.G
open Go.ChangeShapes Go.WideShapes Go.ChangeAt Go.RowKit Go.Deep

theorem own : ownKnob Tryz.prog.godebug = none := V.own
def htxt (l : List UInt8) : ByteArray := ⟨l.toArray⟩
theorem gCls : Tryz.prog.globalNamed "domesday/perm.classes" = some 5 := by kernel_rfl
theorem gClsType : (Tryz.prog.globals[5]?).map (·.type) = some 328 := by kernel_rfl
theorem cellsCls : Tryz.prog.cellsOf 327 = 4 := by kernel_rfl
set_option maxRecDepth 100000 in
/-- A class that reads as two numbers and two texts holds them, cell by cell. -/
theorem cls_of {H : Type} {enc : TypeId × Value → H} {w : World} {base : Nat} {sp : Nat → Bool} {held : Bool} {fuel : Nat} {cs : List Value} {f s : Int} {x X : List UInt8} {y : DataW H × List MemPlace}
    (h : DataW.trod enc Tryz.prog w base sp held fuel 327 cs = some y) (hy : y.1 = .agg [.lit (.int .i64 f), .lit (.int .i64 s), .lit (.string x), .lit (.string X)]) :
    cs[0]? = some (.int .i64 f) ∧ cs[1]? = some (.int .i64 s) ∧ cs[2]? = some (.string (htxt x)) ∧ cs[3]? = some (.string (htxt X)) := by
  obtain ⟨ys, n, _, rfl, hl, hyl, hf⟩ := DataW.trod_struct Tryz.underlying327 h
  rw [cellsCls] at hl
  have f0 := hf 0 _ rfl
  have f1 := hf 1 _ rfl
  have f2 := hf 2 _ rfl
  have f3 := hf 3 _ rfl
  clear hf
  match cs, hl, ys, hyl with
  | [c0, c1, c2, c3], _, [y0, y1, y2, y3], _ =>
    simp [V.cellsInt, V.cellsStr] at f0 f1 f2 f3
    obtain ⟨n0, e0, k0, _⟩ := DataW.trod_int Tryz.underlying3 f0
    obtain ⟨n1, e1, k1, _⟩ := DataW.trod_int Tryz.underlying3 f1
    obtain ⟨s2, e2, k2, _⟩ := DataW.trod_string Tryz.underlying9 f2
    obtain ⟨s3, e3, k3, _⟩ := DataW.trod_string Tryz.underlying9 f3
    simp at e0 e1 e2 e3
    simp [k0, k1, k2, k3] at hy
    obtain ⟨h0, h1, h2, h3⟩ := hy
    refine ⟨by rw [e0, h0]; rfl, by rw [e1, h1]; rfl, ?_, ?_⟩
    · rw [e2, ← h2]; cases s2; simp [htxt]
    · rw [e3, ← h3]; cases s3; simp [htxt]

set_option maxRecDepth 100000 in
theorem tab_of {W : World} {x : String × DataW Unit} {l : List (String × DataW Unit)} (h : laidMet Tryz.prog (x :: ("domesday/perm.classes", Rows.laid_domesday_perm_classes) :: l) W) : P.Tab W := by
  obtain ⟨ps, ⟨_, _, _, _, _, _, _, _, _, _, ⟨g', t', cs, fuel, p, q, hg', ht', hvar, hd, _, _⟩, _⟩, _⟩ := h
  obtain rfl := Option.some.inj (gCls.symm.trans hg')
  obtain rfl := Option.some.inj (gClsType.symm.trans ht')
  obtain ⟨xs, m, _, hx, hlen, hxl, ha⟩ := DataW.trod_array Tryz.underlying328 hd
  have a0 := ha 0 (by decide)
  have a1 := ha 1 (by decide)
  have a2 := ha 2 (by decide)
  clear ha
  have hx1 := congrArg Prod.fst hx
  unfold Rows.laid_domesday_perm_classes at hx1
  match xs, hxl with
  | [z0, z1, z2], _ =>
    simp only [List.map_cons, List.map_nil, DataW.agg.injEq, List.cons.injEq, and_true] at hx1
    obtain ⟨k0, k1, k2⟩ := hx1
    rw [cellsCls] at a0 a1 a2
    have c0 := cls_of a0 k0.symm
    have c1 := cls_of a1 k1.symm
    have c2 := cls_of a2 k2.symm
    refine ⟨fun j v hj => ?_⟩
    rw [World.var?_cell gCls hvar (0 + j)]
    simp at c0 c1 c2
    have hl : j < 12 := (List.getElem?_eq_some_iff.1 hj).1
    match j, hl, hj with
    | 0, _, hj => cases Option.some.inj hj; exact c0.1
    | 1, _, hj => cases Option.some.inj hj; exact c0.2.1
    | 2, _, hj => cases Option.some.inj hj; exact c0.2.2.1
    | 3, _, hj => cases Option.some.inj hj; exact c0.2.2.2
    | 4, _, hj => cases Option.some.inj hj; exact c1.1
    | 5, _, hj => cases Option.some.inj hj; exact c1.2.1
    | 6, _, hj => cases Option.some.inj hj; exact c1.2.2.1
    | 7, _, hj => cases Option.some.inj hj; exact c1.2.2.2
    | 8, _, hj => cases Option.some.inj hj; exact c2.1
    | 9, _, hj => cases Option.some.inj hj; exact c2.2.1
    | 10, _, hj => cases Option.some.inj hj; exact c2.2.2.1
    | 11, _, hj => cases Option.some.inj hj; exact c2.2.2.2
end Go.Proofs.YtknfhphhcnbndaaGreatDoor.G

namespace Go.Proofs.YtknfhphhcnbndaaGreatDoor.V
open Go.RowKit Go.Shelf

def strs (l : List ByteArray) : List Value := l.map Value.string
def beginsB (s : ByteArray) : Bool := Lib.hasPrefix s.data.toList [47]
def endsB (s : ByteArray) : Bool := Lib.hasSuffix s.data.toList [47]

theorem clo_pays (w : World) : PredAt Tryz.prog 187 #[] encR isSl w := fun W r _ => by
  unfold FnGives
  go_enter Tryz.func187, Tryz.ntmps187
  go_wp2
  go_ret
  refine ⟨?_, 0, rfl⟩
  have e : ((r : Int) == 47) = isSl r := by
    unfold isSl
    rw [Bool.eq_iff_iff, beq_iff_eq, beq_iff_eq]
    omega
  rw [e]
  rfl

theorem names_any (s : ByteArray) (w : World) (hs : s.size ≤ 100000) :
    Calls Tryz.prog 135 #[.string s] w fun e w' => ∃ A, e = .returned (.tuple #[.slice (some ⟨A, 0, none⟩) (namesL s).length (namesL s).length, .bool (beginsB s), .bool (endsB s)]) ∧ w.heap.size ≤ A ∧
      w'.ownsRow w.heap.size 9 1 (.slice (some ⟨A, 0, none⟩) (namesL s).length (namesL s).length) (namesL s).length (strs (namesL s)) ∧ Below w.heap.size w w' := by
  have cF : Calls Tryz.prog 186 #[.string s, .func (.func 187) #[] #[]] w _ := Tryz.strings_FieldsFunc 187 #[] (enters_of Tryz.func187 (by kernel_rfl) rfl) isSl s w (by omega) (clo_pays w)
  rw [fields_names] at cF
  have HC := Lib.hid cF
  clear cF
  go_enter Tryz.func135, Tryz.ntmps135
  go_wp2_with (first
    | (go_at_call 186; refine HC.out.mono ?_; rintro e w2 ⟨A, rfl, hA, hown, hb⟩; have HO := Lib.hid hown; have HB := Lib.hid hb; clear hown hb)
    | (go_at_call 68; refine (Tryz.strings_HasPrefix _ _ _).mono ?_; rintro e w3 ⟨rfl, hw⟩; subst hw)
    | (go_at_call 172; refine (Tryz.strings_HasSuffix _ _ _ (by omega)).mono ?_; rintro e w3 ⟨rfl, hw⟩; subst hw))
  exact bodyPost_ret (v := .tuple #[.slice (some ⟨A, 0, none⟩) (namesL s).length (namesL s).length, .bool (beginsB s), .bool (endsB s)]) (by simp [results, Tryz.results135, go_sem, beginsB, endsB]) rfl ⟨A, rfl, hA, HO.out, HB.out⟩

theorem infoStr : (Tryz.prog.info? 9).map (fun i => (i.zero, i.size, i.bytes)) = some (some (.string ⟨#[]⟩), 1, 16) := by kernel_rfl

end Go.Proofs.YtknfhphhcnbndaaGreatDoor.V

namespace Go.Proofs.YtknfhphhcnbndaaGreatDoor.V
open Go.RowKit

def listE (M : List Nd) (i : Int) : Int := match atM M i with
  | none => 2
  | some n => if n.kind = 2 then (if n.dead then 8 else 0) else 3
def listL (M : List Nd) (i : Int) : List (ByteArray × Int) := match atM M i with
  | none => []
  | some n => if n.kind = 2 then (if n.dead then [] else n.ents) else []
def linkE (M : List Nd) (i : Int) : Int := match atM M i with
  | none => 2
  | some n => if n.kind = 3 then (if n.dead then 8 else 0) else 1
def linkT (M : List Nd) (i : Int) : ByteArray := match atM M i with
  | none => ⟨#[]⟩
  | some n => if n.kind = 3 then (if n.dead then ⟨#[]⟩ else n.target) else ⟨#[]⟩
def overI (M : List Nd) (i : Int) : Int := match atM M i with
  | none => i
  | some n => n.over
def upI (M : List Nd) (i : Int) : Int := match atM M i with
  | none => -1
  | some n => n.up

theorem atM_none {h : Fsh} {i : Int} (hi : atM h.M i = none) : hasB h i = false := by
  unfold atM at hi
  unfold hasB
  rw [decide_eq_false_iff_not]
  intro q
  have hml : h.M.length = h.X.length := List.length_map ..
  rw [if_pos (by omega)] at hi
  have := List.getElem?_eq_none_iff.1 hi
  omega
theorem atM_at {h : Fsh} {i : Int} {n : Nd} (hi : atM h.M i = some n) : ∃ (k : Nat) (x : Nd × Value), i = (k : Int) ∧ h.X[k]? = some x ∧ x.1 = n := by
  obtain ⟨k, hk, hn⟩ := atM_some hi
  obtain ⟨x, hx, hxn⟩ := fs_at hn
  exact ⟨k, x, hk, hx, hxn⟩

theorem infoEnt : (Tryz.prog.info? 177).map (fun i => (i.zero, i.size, i.bytes)) = some (some (.agg #[.string ⟨#[]⟩, .int .i64 0]), 2, 24) := by kernel_rfl
theorem ents_one : ∀ l : List (ByteArray × Int), ∀ u ∈ entCells l, u.oneCell' = true
  | [], u, hu => by cases hu
  | x :: r, u, hu => by
    rw [entCells] at hu
    rcases List.mem_cons.1 hu with rfl | hu
    · rfl
    · rcases List.mem_cons.1 hu with rfl | hu
      · rfl
      · exact ents_one r u hu

set_option maxRecDepth 100000 in
set_option maxHeartbeats 4000000 in
/-- slices.Clone of a row of entries: a new row of the same. -/
theorem clone_any (v : Value) (l : List (ByteArray × Int)) (w : World) (H : w.ownsRow 0 177 2 v l.length (entCells l)) (hl : l.length ≤ 1000000) :
    Calls Tryz.prog 224 #[v] w fun e w' => ∃ u, e = .returned u ∧ w'.ownsRow w.heap.size 177 2 u l.length (entCells l) ∧ Below w.heap.size w w' := by
  have hnil := fun W a n c => _root_.Go.run_eql_slice_nil (P := Tryz.prog) W 133 177 a n c Tryz.underlying133
  rcases H.2 with ⟨rfl, h0⟩ | ⟨g, cap, cur, rfl, _⟩
  · obtain rfl : l = [] := List.eq_nil_of_length_eq_zero h0
    go_enter Tryz.func224, Tryz.ntmps224
    go_wp2
    go_ret
    exact ⟨_, rfl, World.ownsRow_nil _ _ _ _, Below.refl _ _⟩
  · obtain ⟨i0, hi, hz0, hz1, hz2⟩ := info_parts infoEnt
    have HMX := Lib.hid (show 0 + l.length ≤ maxLen from by unfold maxLen; omega)
    have HS := Lib.hid (show ∀ o, (w.alloc o).ownsRow 0 177 2 (.slice (some ⟨g, 0, none⟩) l.length cap) l.length (entCells l) from fun o => H.alloc o)
    clear H
    go_enter Tryz.func224, Tryz.ntmps224
    go_wp2_with (at_builtin; refine wpList_append_row rfl (.tmp 5) (.tmp 6) 133 rfl w.heap.size 177 i0 _ 2 24 Tryz.underlying133 hi hz0 hz1 hz2 rfl (by decide) (.slice (some ⟨w.heap.size, 0, none⟩) 0 0) 0 [] rfl (owns_made (Nat.le_refl _)) (.slice (some ⟨g, 0, none⟩) l.length cap) l.length (entCells l) rfl (HS.out _) (ents_one l) HMX.out (by omega) (by simp) ?_; intro v1 w1 hown1 hg1; rw [Nat.zero_add, List.nil_append] at hown1; have HO := Lib.hid hown1; have HG := Lib.hid hg1; clear hown1 hg1)
    go_ret
    exact ⟨_, rfl, HO.out, ((Below.refl _ _).alloc (Nat.le_refl _) _).grown HG.out (by simp) (fun j hj => by cases hj; exact Nat.le_refl _)⟩

/-- What an asker sees of the node number i: the facts on its cells. -/
theorem list_no (h : Fsh) (i : Int) (w : World) (H : Fs h w) (hn : 0 < h.X.length) (hi : hasB h i = false) :
    Calls Tryz.prog 167 #[.pointer (some ⟨h.p, 0, none⟩), .int .i64 i] w fun e w' => e = .returned (.tuple #[.slice none 0 0, .int .i64 2]) ∧ w = w' := by
  have hh := has_any h i w H hn
  rw [hi] at hh
  have HH := Lib.hid hh
  clear hh H hi
  go_enter Tryz.func167, Tryz.ntmps167
  go_wp2_with (refine HH.out.mono ?_; rintro e w2 ⟨rfl, hw⟩; subst hw)
  go_ret2
  exact ⟨rfl, rfl⟩
theorem link_no (h : Fsh) (i : Int) (w : World) (H : Fs h w) (hn : 0 < h.X.length) (hi : hasB h i = false) :
    Calls Tryz.prog 84 #[.pointer (some ⟨h.p, 0, none⟩), .int .i64 i] w fun e w' => e = .returned (.tuple #[.string ⟨#[]⟩, .int .i64 2]) ∧ w = w' := by
  have hh := has_any h i w H hn
  rw [hi] at hh
  have HH := Lib.hid hh
  clear hh H hi
  go_enter Tryz.func84, Tryz.ntmps84
  go_wp2_with (refine HH.out.mono ?_; rintro e w2 ⟨rfl, hw⟩; subst hw)
  go_ret2
  exact ⟨rfl, rfl⟩
def zeroCells : Array Value := #[.int .i64 0, .int .i64 0, .int .i64 0, .int .i64 0, .int .i64 0, .int .i64 0, .int .i64 0, .int .i64 0, .int .i64 0, .int .i64 0, .int .i64 0, .int .i64 0, .string ⟨#[]⟩]
def zeroNode : Value := .agg zeroCells
set_option maxRecDepth 100000 in
set_option maxHeartbeats 4000000 in
theorem node_no (h : Fsh) (i : Int) (w : World) (H : Fs h w) (hn : 0 < h.X.length) (hi : hasB h i = false) :
    Calls Tryz.prog 30 #[.pointer (some ⟨h.p, 0, none⟩), .int .i64 i] w fun e w' => e = .returned (.tuple #[zeroNode, .int .i64 2]) ∧ Below w.heap.size w w' := by
  have HH := Lib.hid (fun W (hb : Below w.heap.size w W) => has_any h i W (H.keep hb) hn)
  rw [hi] at HH
  have HBa := Lib.hid (show ∀ o, Below w.heap.size w (w.alloc o) from fun o => (Below.refl _ _).alloc (Nat.le_refl _) _)
  clear H hi
  go_enter Tryz.func30, Tryz.ntmps30
  go_wp2_with (go_at_call 65; refine (HH.out _ (HBa.out _)).mono ?_; rintro e w2 ⟨rfl, hw⟩; subst hw)
  refine bodyPost_ret (v := .tuple #[zeroNode, .int .i64 2]) ?_ rfl ⟨rfl, HBa.out _⟩
  rw [results_cell_tmp Tryz.results30]
  have hl := run_loadVar_row (P := Tryz.prog) (w.alloc (.cells zeroCells 66)) w.heap.size 66 66 zeroCells (0, 0) _ (heap_alloc_new _ _) Tryz.underlying66 rfl (by rw [sizeKnown]; rfl)
  unfold zeroCells at hl
  simp [asAddr, hl, Result.andThen, zeroNode, zeroCells]

set_option maxRecDepth 100000 in
set_option maxHeartbeats 4000000 in
theorem list_at (h : Fsh) (i : Nat) (x : Nd × Value) (w : World) (H : Fs h w) (hx : h.X[i]? = some x) (hl : x.1.ents.length ≤ 1000000) :
    Calls Tryz.prog 167 #[.pointer (some ⟨h.p, 0, none⟩), .int .i64 (i : Int)] w fun e w' => ∃ v, e = .returned (.tuple #[v, .int .i64 (if x.1.kind = 2 then (if x.1.dead then 8 else 0) else 3)]) ∧
      w'.ownsRow w.heap.size 177 2 v (if x.1.kind = 2 then (if x.1.dead then [] else x.1.ents) else []).length (entCells (if x.1.kind = 2 then (if x.1.dead then [] else x.1.ents) else [])) ∧ Below w.heap.size w w' := by
  have hil : i < h.X.length := (List.getElem?_eq_some_iff.1 hx).1
  obtain ⟨g, cap, hv, _, _⟩ := H.slice (by omega)
  have c0 : w.cell? ⟨h.p, 0, none⟩ = some (.slice (some ⟨g, 0, none⟩) h.X.length cap) := by rw [← hv]; exact H.cell0
  have c1 := H.at_node hv hx (k := 13) (by omega) rfl
  have c2 := H.at_node hv hx (k := 16) (by omega) rfl
  have hhas : hasB h (i : Int) = true := by simp [hasB, hil]
  have hh := has_any h (i : Int) w H (by omega)
  rw [hhas] at hh
  have HH := Lib.hid hh
  have HD := Lib.hid (isDir_any h i x w H hx)
  have HC := Lib.hid (clone_any x.2 x.1.ents w (H.ents x (List.mem_of_getElem? hx)) hl)
  clear hh hv H hhas
  by_cases hk : x.1.kind = 2
  · have k2 : (x.1.kind == 2) = true := by rw [hk]; rfl
    rw [k2] at HD
    simp only [if_pos hk]
    clear hk k2
    cases hd : x.1.dead with
    | true =>
      rw [hd] at c1
      clear hd
      go_enter Tryz.func167, Tryz.ntmps167
      go_wp2_with (first
        | (go_at_call 65; refine HH.out.mono ?_; rintro e w2 ⟨rfl, hw⟩; subst hw)
        | (go_at_call 178; refine HD.out.mono ?_; rintro e w2 ⟨rfl, hw⟩; subst hw))
      go_ret2
      exact ⟨_, rfl, World.ownsRow_nil _ _ _ _, Below.refl _ _⟩
    | false =>
      rw [hd] at c1
      clear hd
      go_enter Tryz.func167, Tryz.ntmps167
      go_wp2_with (first
        | (go_at_call 65; refine HH.out.mono ?_; rintro e w2 ⟨rfl, hw⟩; subst hw)
        | (go_at_call 178; refine HD.out.mono ?_; rintro e w2 ⟨rfl, hw⟩; subst hw)
        | (go_at_call 224; refine HC.out.mono ?_; rintro e w2 ⟨u, rfl, ho, hb⟩; have HO := Lib.hid ho; have HB := Lib.hid hb; clear ho hb))
      go_ret2
      exact ⟨_, rfl, HO.out, HB.out⟩
  · have k2 : (x.1.kind == 2) = false := beq_eq_false_iff_ne.2 hk
    rw [k2] at HD
    simp only [if_neg hk]
    clear hk k2
    go_enter Tryz.func167, Tryz.ntmps167
    go_wp2_with (first
      | (go_at_call 65; refine HH.out.mono ?_; rintro e w2 ⟨rfl, hw⟩; subst hw)
      | (go_at_call 178; refine HD.out.mono ?_; rintro e w2 ⟨rfl, hw⟩; subst hw))
    go_ret2
    exact ⟨_, rfl, World.ownsRow_nil _ _ _ _, Below.refl _ _⟩

set_option maxRecDepth 100000 in
set_option maxHeartbeats 4000000 in
theorem link_at (h : Fsh) (i : Nat) (x : Nd × Value) (w : World) (H : Fs h w) (hx : h.X[i]? = some x) :
    Calls Tryz.prog 84 #[.pointer (some ⟨h.p, 0, none⟩), .int .i64 (i : Int)] w fun e w' => e = .returned (.tuple #[.string (if x.1.kind = 3 then (if x.1.dead then ⟨#[]⟩ else x.1.target) else ⟨#[]⟩), .int .i64 (if x.1.kind = 3 then (if x.1.dead then 8 else 0) else 1)]) ∧ w = w' := by
  have hil : i < h.X.length := (List.getElem?_eq_some_iff.1 hx).1
  obtain ⟨g, cap, hv, _, _⟩ := H.slice (by omega)
  have c0 : w.cell? ⟨h.p, 0, none⟩ = some (.slice (some ⟨g, 0, none⟩) h.X.length cap) := by rw [← hv]; exact H.cell0
  have c1 := H.at_node hv hx (k := 13) (by omega) rfl
  have c2 := H.at_node hv hx (k := 2) (by omega) rfl
  have c3 := H.at_node hv hx (k := 12) (by omega) rfl
  have hhas : hasB h (i : Int) = true := by simp [hasB, hil]
  have hh := has_any h (i : Int) w H (by omega)
  rw [hhas] at hh
  have HH := Lib.hid hh
  clear hh hv H hhas
  by_cases hk : x.1.kind = 3
  · have k2 : (x.1.kind != 3) = false := by rw [hk]; rfl
    simp only [if_pos hk]
    rw [hk] at c2
    clear hk k2
    cases hd : x.1.dead with
    | true =>
      rw [hd] at c1
      clear hd
      go_enter Tryz.func84, Tryz.ntmps84
      go_wp2_with (go_at_call 65; refine HH.out.mono ?_; rintro e w2 ⟨rfl, hw⟩; subst hw)
      go_ret2
      exact ⟨rfl, rfl⟩
    | false =>
      rw [hd] at c1
      clear hd
      go_enter Tryz.func84, Tryz.ntmps84
      go_wp2_with (go_at_call 65; refine HH.out.mono ?_; rintro e w2 ⟨rfl, hw⟩; subst hw)
      go_ret2
      exact ⟨rfl, rfl⟩
  · have k2 : (x.1.kind != 3) = true := by simpa using hk
    simp only [if_neg hk]
    clear hk
    go_enter Tryz.func84, Tryz.ntmps84
    go_wp2_with (go_at_call 65; refine HH.out.mono ?_; rintro e w2 ⟨rfl, hw⟩; subst hw)
    go_ret2
    exact ⟨rfl, rfl⟩

/-- At most so many entries a directory. -/
def FewE (M : List Nd) : Prop := ∀ n ∈ M, n.ents.length ≤ 1000000
section
variable {w0 w : World} {p : Nat} {M : List Nd}
theorem has_list (i : Int) (h : Has w0 p M w) (hn : 0 < M.length) (hl : FewE M) :
    Calls Tryz.prog 167 #[.pointer (some ⟨p, 0, none⟩), .int .i64 i] w fun e w' => ∃ v, e = .returned (.tuple #[v, .int .i64 (listE M i)]) ∧
      w'.ownsRow w.heap.size 177 2 v (listL M i).length (entCells (listL M i)) ∧ Below w.heap.size w w' := by
  obtain ⟨h, rfl, rfl, H, hb, hf⟩ := h
  have hml : h.M.length = h.X.length := List.length_map ..
  unfold listE listL
  cases ha : atM h.M i with
  | none =>
    refine (list_no h i w H (by omega) (atM_none ha)).mono ?_
    rintro e w' ⟨rfl, rfl⟩
    exact ⟨_, rfl, World.ownsRow_nil _ _ _ _, Below.refl _ _⟩
  | some n =>
    obtain ⟨k, x, rfl, hx, rfl⟩ := atM_at ha
    exact list_at h k x w H hx (hl _ (List.mem_map_of_mem (List.mem_of_getElem? hx)))
theorem has_link (i : Int) (h : Has w0 p M w) (hn : 0 < M.length) :
    Calls Tryz.prog 84 #[.pointer (some ⟨p, 0, none⟩), .int .i64 i] w fun e w' => e = .returned (.tuple #[.string (linkT M i), .int .i64 (linkE M i)]) ∧ w = w' := by
  obtain ⟨h, rfl, rfl, H, hb, hf⟩ := h
  have hml : h.M.length = h.X.length := List.length_map ..
  unfold linkE linkT
  cases ha : atM h.M i with
  | none => exact link_no h i w H (by omega) (atM_none ha)
  | some n =>
    obtain ⟨k, x, rfl, hx, rfl⟩ := atM_at ha
    exact link_at h k x w H hx
theorem has_over (i : Int) (h : Has w0 p M w) (hn : 0 < M.length) :
    Calls Tryz.prog 59 #[.pointer (some ⟨p, 0, none⟩), .int .i64 i] w fun e w' => e = .returned (.int .i64 (overI M i)) ∧ w = w' := by
  obtain ⟨h, rfl, rfl, H, hb, hf⟩ := h
  have hml : h.M.length = h.X.length := List.length_map ..
  unfold overI
  cases ha : atM h.M i with
  | none => exact over_no h i w H (by omega) (atM_none ha)
  | some n =>
    obtain ⟨k, x, rfl, hx, rfl⟩ := atM_at ha
    exact over_any h k x w H hx
theorem has_up (i : Int) (h : Has w0 p M w) (hn : 0 < M.length) :
    Calls Tryz.prog 189 #[.pointer (some ⟨p, 0, none⟩), .int .i64 i] w fun e w' => e = .returned (.int .i64 (upI M i)) ∧ w = w' := by
  obtain ⟨h, rfl, rfl, H, hb, hf⟩ := h
  have hml : h.M.length = h.X.length := List.length_map ..
  unfold upI
  cases ha : atM h.M i with
  | none => exact up_no h i w H (by omega) (atM_none ha)
  | some n =>
    obtain ⟨k, x, rfl, hx, rfl⟩ := atM_at ha
    exact up_any h k x w H hx
def nodeV' (M : List Nd) (i : Int) : Value := match atM M i with
  | none => zeroNode
  | some n => knownV n
def nodeEr (M : List Nd) (i : Int) : Int := match atM M i with
  | none => 2
  | some _ => 0
theorem has_nodeI (i : Int) (h : Has w0 p M w) (hn : 0 < M.length) :
    Calls Tryz.prog 30 #[.pointer (some ⟨p, 0, none⟩), .int .i64 i] w fun e w' => e = .returned (.tuple #[nodeV' M i, .int .i64 (nodeEr M i)]) ∧ Below w.heap.size w w' := by
  obtain ⟨h, rfl, rfl, H, hb, hf⟩ := h
  have hml : h.M.length = h.X.length := List.length_map ..
  unfold nodeV' nodeEr
  cases ha : atM h.M i with
  | none => exact node_no h i w H (by omega) (atM_none ha)
  | some n =>
    obtain ⟨k, x, rfl, hx, rfl⟩ := atM_at ha
    exact node_get h k x w H hx
end
end Go.Proofs.YtknfhphhcnbndaaGreatDoor.V

namespace Go.Proofs.YtknfhphhcnbndaaGreatDoor.V
open Go.Proofs.YtknfhphhcnbndaaGreatDoor.P
open Go.RowKit

/-- A node as perm's texts have it. -/
def nvOf (n : Nd) : Nv := ⟨n.dev, n.ino, n.kind, n.mode, n.uid, n.gid, n.size, n.blocks, n.links, n.t0, n.t1, n.t2, n.target⟩
def zeroNv : Nv := ⟨0, 0, 0, 0, 0, 0, 0, 0, 0, 0, 0, 0, ⟨#[]⟩⟩
def nvAt (M : List Nd) (i : Int) : Nv := match atM M i with
  | none => zeroNv
  | some n => nvOf n
theorem nodeV_nv (M : List Nd) (i : Int) : nodeV' M i = nodeV (nvAt M i) := by
  unfold nodeV' nvAt
  cases atM M i <;> rfl
def kindM (M : List Nd) (i : Int) : Int := (nvAt M i).kind
/-- A place: the node, and by which name's entry it was come to. -/
structure Pl where
  id : Int
  dir : Int
  name : ByteArray
def plOf (i : Int) : Pl := ⟨i, i, ⟨#[]⟩⟩
def findE (s : ByteArray) : List (ByteArray × Int) → Option Int
  | [] => none
  | x :: r => if sameT x.1 s = true then some x.2 else findE s r
/-- From a directory by a name. -/
def entW (M : List Nd) (u g : Int) (at_ : Int) (s : ByteArray) : Except Int Pl :=
  if kindM M at_ = 2 then
    (if mayB (bitsP (nvAt M at_) u g) 1 = true then
      (if s.size ≤ 255 then
        (if s.toList = [46] then .ok (plOf at_)
         else if s.toList = [46, 46] then .ok (plOf (overI M (upI M at_)))
         else if listE M at_ = 0 then
           (match findE s (listL M at_) with
            | none => .error 2
            | some i => .ok ⟨overI M i, at_, s⟩)
         else .error (listE M at_))
       else .error 7)
     else .error 5)
  else .error 3
/-- Is a node a link that is followed? -/
def thruW (M : List Nd) (follow slash : Bool) (r : List ByteArray) (i : Int) : Bool := kindM M i == 3 && (follow || (slash || decide (0 < r.length)))
/-- What a walk comes to: the error, or 0; the place; how many links were followed. -/
structure Res where
  err : Int
  pl : Pl
  hops : Int
def bad (e : Int) : Res := ⟨e, ⟨0, 0, ⟨#[]⟩⟩, 0⟩
def endW (M : List Nd) (slash : Bool) (p : Pl) (hops : Int) : Res :=
  if slash = true ∧ kindM M p.id ≠ 2 then bad 3 else ⟨0, p, hops⟩
/-- Along names, until a link is met. -/
def goL (M : List Nd) (u g : Int) (follow : Bool) (hops : Int) (k : Int → List ByteArray → Pl → Bool → Res) : List ByteArray → Pl → Bool → Res
  | [], p, slash => endW M slash p hops
  | s :: r, p, slash => match entW M u g p.id s with
    | .error e => bad e
    | .ok q => if thruW M follow slash r q.id = true then k q.id r p slash else goL M u g follow hops k r q slash
/-- With h links still to be followed. -/
def goW (M : List Nd) (u g : Int) (follow : Bool) : Nat → List ByteArray → Pl → Bool → Res
  | 0, l, p, slash => goL M u g follow 40 (fun _ _ _ _ => bad 6) l p slash
  | h + 1, l, p, slash => goL M u g follow (40 - (h + 1 : Nat)) (fun i r q sl => if linkE M i = 0 then goW M u g follow h (namesL (linkT M i) ++ r) (if beginsB (linkT M i) = true then plOf 0 else q) (sl || (endsB (linkT M i) && r.isEmpty)) else bad (linkE M i)) l p slash
def walkW (M : List Nd) (u g : Int) (s : ByteArray) (follow : Bool) : Res :=
  if s.size = 0 then bad 2 else if 4096 < s.size then bad 7 else goW M u g follow 40 (namesL s) (plOf 0) (endsB s)
def kOf (M : List Nd) (u g : Int) (follow : Bool) : Nat → Int → List ByteArray → Pl → Bool → Res
  | 0 => fun _ _ _ _ => bad 6
  | h + 1 => fun i r q sl => if linkE M i = 0 then goW M u g follow h (namesL (linkT M i) ++ r) (if beginsB (linkT M i) = true then plOf 0 else q) (sl || (endsB (linkT M i) && r.isEmpty)) else bad (linkE M i)
theorem goW_nil (M : List Nd) (u g : Int) (follow : Bool) (h : Nat) (p : Pl) (sl : Bool) : goW M u g follow h [] p sl = endW M sl p (40 - (h : Int)) := by
  cases h <;> rfl
theorem goW_cons (M : List Nd) (u g : Int) (follow : Bool) (h : Nat) (s : ByteArray) (r : List ByteArray) (p : Pl) (sl : Bool) : goW M u g follow h (s :: r) p sl =
    match entW M u g p.id s with
    | .error e => bad e
    | .ok q => if thruW M follow sl r q.id = true then kOf M u g follow h q.id r p sl else goW M u g follow h r q sl := by
  cases h <;> rfl
theorem entW_err {M : List Nd} {u g i : Int} {s : ByteArray} {e : Int} (h : entW M u g i s = .error e) : e ≠ 0 := by
  unfold entW at h
  by_cases h1 : kindM M i = 2
  · rw [if_pos h1] at h
    by_cases h2 : mayB (bitsP (nvAt M i) u g) 1 = true
    · rw [if_pos h2] at h
      by_cases h3 : s.size ≤ 255
      · rw [if_pos h3] at h
        by_cases h4 : s.toList = [46]
        · rw [if_pos h4] at h; cases h
        · rw [if_neg h4] at h
          by_cases h5 : s.toList = [46, 46]
          · rw [if_pos h5] at h; cases h
          · rw [if_neg h5] at h
            by_cases h6 : listE M i = 0
            · rw [if_pos h6] at h
              cases hf : findE s (listL M i) with
              | none => rw [hf] at h; have := Except.error.inj h; omega
              | some j => rw [hf] at h; cases h
            · rw [if_neg h6] at h
              have := Except.error.inj h
              omega
      · rw [if_neg h3] at h; have := Except.error.inj h; omega
    · rw [if_neg h2] at h; have := Except.error.inj h; omega
  · rw [if_neg h1] at h; have := Except.error.inj h; omega
theorem known_nv (n : Nv) : nodeV n = .agg #[.int .i64 n.dev, .int .i64 n.ino, .int .i64 n.kind, .int .i64 n.mode, .int .i64 n.uid, .int .i64 n.gid, .int .i64 n.size, .int .i64 n.blocks, .int .i64 n.links, .int .i64 n.ta, .int .i64 n.tb, .int .i64 n.tc, .string n.target] := rfl
end Go.Proofs.YtknfhphhcnbndaaGreatDoor.V

namespace Go.Proofs.YtknfhphhcnbndaaGreatDoor.Z
open Go.ChangeShapes Go.WideShapes Go.ChangeAt Go.RowKit Go.Deep
theorem own : ownKnob Tryz.prog.godebug = none := V.own
theorem max_of {W : World} (h : W.ShapedOpen Tryz.prog) : A.MaxT W :=
  cell_of_shapedOpen_int (zero := #[.int .i64 0]) h (of_decide_eq_true (by kernel_rfl)) (by kernel_rfl) rfl (by kernel_rfl) (by kernel_rfl) Tryz.underlying3
structure ZTab (W : World) : Prop where
  t : P.Tab W
  m : A.MaxT W
theorem tab_of {X : World} {a b c d e f g h : String × DataW Unit} {l : List (String × DataW Unit)} (q : laidMet Tryz.prog (a :: b :: c :: d :: e :: f :: g :: h :: ("domesday/perm.classes", Rows.laid_domesday_perm_classes) :: l) X) (hs : X.ShapedOpen Tryz.prog) : ZTab X :=
  ⟨G.tab_of q.tail.tail.tail.tail.tail.tail.tail, max_of hs⟩
end Go.Proofs.YtknfhphhcnbndaaGreatDoor.Z
