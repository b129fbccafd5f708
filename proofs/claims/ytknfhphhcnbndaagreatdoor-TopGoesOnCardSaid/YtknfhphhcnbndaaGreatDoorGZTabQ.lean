/-
  The bits of a number; a node as a value; the table of the classes; what perm's set, letter, searched and bitsFor return. Conditions: the table of classes lies as its text lays it; numbers are int64s.
  What perm's searched returns: may anybody search. Conditions: the table of classes lies as its text lays it.
  What perm's bitsFor and May return. Conditions: the table of classes lies as its text lays it.
  What the listed package-level variables give the walks: the table of classes. Conditions: each fact's own.
  A path's names: what stands between its slashes, by bytes; the library's way, by runes, gives the same. Conditions: none.
  What path.Names and the reference's Names return: a path's names, and whether it begins, and ends, with a slash. Conditions: at most 100000 bytes.
  Where a path leads: the walk over the model's nodes, names ahead of names. Conditions: none.
  What the listed package-level variables give the laws of tools: the table of classes; the library's number. Conditions: none.
  What the listed package-level variables give the laws of tools that quote: the package quote's tables too. Conditions: none.
-/
import Derived.Test.YtknfhphhcnbndaaGreatDoorRows
import Derived.WalkKit
import Derived.WalkSpells
import Derived.WalkLawsBesides
import Derived.Lib.Hide
import Derived.Lib.OthersKept
import Derived.Deep.QuietTactic
import Derived.BigQuiet
import Derived.Deep.WholeRow
import Derived.Deep.MidRow
import Derived.Test.YtknfhphhcnbndaaGreatDoorCards
import Derived.Test.YtknfhphhcnbndaaGreatDoorTie
import Derived.Test.YtknfhphhcnbndaaGreatDoorGVArg
import Derived.Lib.LaidTab
import Derived.ChangeOld
import Derived.Below
import Derived.LaidMore
import Derived.ChangeSame
import Derived.Lay
import Derived.Deep.DeepHandedRow
import Derived.Deep.DeepWitnessRowRef
import Derived.Stop.LaidErr
import Derived.Lib.FieldsP
import Derived.Lib.SpaceUEq
import Derived.Lib.TrimU
import Derived.Test.YtknfhphhcnbndaaGreatDoorShelf
import Derived.OwnWalk
import Derived.Deep.AppendLies
import Derived.Shelf.GgClosure.Gives
import Derived.Test.YtknfhphhcnbndaaGreatDoorGVAsk
import Derived.Test.YtknfhphhcnbndaaGreatDoorGAStep
import Derived.ProofKit
import Derived.HandedShaped
import Derived.Shelf.Vars
import Derived.Test.YtknfhphhcnbndaaGreatDoorGQLaid
set_option linter.unusedVariables false
set_option linter.unusedSimpArgs false
namespace Go.Proofs.YtknfhphhcnbndaaGreatDoor.P
open Go.RowKit

/-- The k-th bit of a number, from the lowest one. -/
def bitB (b : Int) (k : Nat) : Bool := decide (b / 2 ^ k % 2 = 1)
theorem and_one (x : Int) : bits .and .i64 x 1 = x % 2 := by
  have h : ((BitVec.ofInt 64 x &&& BitVec.ofInt 64 1).toNat : Int) = x % 2 := by
    rw [BitVec.toNat_and, show (BitVec.ofInt 64 1).toNat = 1 from by decide, Nat.and_one_is_mod, BitVec.toNat_ofInt]
    omega
  have h2 : bits .and .i64 x 1 = IntKind.i64.wrap ((BitVec.ofInt 64 x &&& BitVec.ofInt 64 1).toNat : Int) := rfl
  rw [h2, h]
  have e : x % 2 = 0 ∨ x % 2 = 1 := by omega
  rcases e with e | e <;> rw [e] <;> decide
theorem pret_bool {a b : Bool} (h : a = b) : Ending.returned (.bool a) = .returned (.bool b) := by rw [h]

theorem pset_any (b : Int) (k : Nat) (w : World) (hk : k ≤ 62) :
    Calls Tryz.prog 226 #[.int .i64 b, .int .i64 (k : Int)] w fun e w' => e = .returned (.bool (bitB b k)) ∧ w = w' := by
  have hb : (bits BinOp.and IntKind.i64 (b / 2 ^ k) 1 == 1) = bitB b k := by
    rw [and_one]
    unfold bitB
    by_cases h : b / 2 ^ k % 2 = 1
    · rw [decide_eq_true h, h]; rfl
    · rw [decide_eq_false h]; exact beq_eq_false_iff_ne.2 h
  have HB := Lib.hid hb
  clear hb
  go_enter Tryz.func226, Tryz.ntmps226
  go_wp2
  go_ret
  exact ⟨pret_bool HB.out, rfl⟩
theorem setAt (k : Nat) (i : Int) (h : i = (k : Int)) (hk : k ≤ 62) (b : Int) (w : World) :
    Calls Tryz.prog 226 #[.int .i64 b, .int .i64 i] w fun e w' => e = .returned (.bool (bitB b k)) ∧ w = w' := by subst h; exact pset_any b k w hk

/-- A node: its thirteen cells. -/
structure Nv where
  dev : Int
  ino : Int
  kind : Int
  mode : Int
  uid : Int
  gid : Int
  size : Int
  blocks : Int
  links : Int
  ta : Int
  tb : Int
  tc : Int
  target : ByteArray
def nodeV (n : Nv) : Value := .agg #[.int .i64 n.dev, .int .i64 n.ino, .int .i64 n.kind, .int .i64 n.mode, .int .i64 n.uid, .int .i64 n.gid, .int .i64 n.size, .int .i64 n.blocks, .int .i64 n.links, .int .i64 n.ta, .int .i64 n.tb, .int .i64 n.tc, .string n.target]

/-- The table of classes. -/
def classCells : List Value := [.int .i64 6, .int .i64 11, .string ⟨#[115]⟩, .string ⟨#[83]⟩, .int .i64 3, .int .i64 10, .string ⟨#[115]⟩, .string ⟨#[83]⟩, .int .i64 0, .int .i64 9, .string ⟨#[116]⟩, .string ⟨#[84]⟩]
structure Tab (w : World) : Prop where
  cell : w.rangeAt 5 0 classCells
theorem cell_lt {w : World} {a : Addr} {v : Value} (h : w.cell? a = some v) : a.block < w.heap.size := by
  apply Classical.byContradiction
  intro hn
  have : w.heap[a.block]? = none := Array.getElem?_eq_none (by omega)
  unfold World.cell? at h
  simp [this] at h
theorem Tab.keep {w w' : World} (h : Tab w) (hb : Below w.heap.size w w') : Tab w' :=
  ⟨fun j v hj => by rw [hb.cell (p := ⟨5, 0 + j, none⟩) (cell_lt (h.cell j v hj))]; exact h.cell j v hj⟩
theorem pbelow_two {w a b : World} (h : Below w.heap.size w a) (k : Below a.heap.size a b) : Below w.heap.size w b := h.trans (k.mono h.size)
theorem sizeClasses : (Tryz.prog.info? 328).map (·.size) = some classCells.length := by kernel_rfl
theorem class0 : ∀ w : World, (Instr.index 328 (.agg classCells.toArray) (.int .i64 0)).run Tryz.prog w = .ok (.agg #[.int .i64 6, .int .i64 11, .string ⟨#[115]⟩, .string ⟨#[83]⟩]) w := fun _ => by kernel_rfl
theorem class1 : ∀ w : World, (Instr.index 328 (.agg classCells.toArray) (.int .i64 1)).run Tryz.prog w = .ok (.agg #[.int .i64 3, .int .i64 10, .string ⟨#[115]⟩, .string ⟨#[83]⟩]) w := fun _ => by kernel_rfl
theorem class2 : ∀ w : World, (Instr.index 328 (.agg classCells.toArray) (.int .i64 2)).run Tryz.prog w = .ok (.agg #[.int .i64 0, .int .i64 9, .string ⟨#[116]⟩, .string ⟨#[84]⟩]) w := fun _ => by kernel_rfl

def anyB (m : Int) : Bool := bitB m 6 || bitB m 3 || bitB m 0
end Go.Proofs.YtknfhphhcnbndaaGreatDoor.P

namespace Go.Proofs.YtknfhphhcnbndaaGreatDoor.P
open Go.RowKit

/-- Before round k: nobody of the first k classes searches; the table and the box are as they were. -/
def SRel (W : World) (b : Nat) (m : Int) (v : Value) (w : World) : Prop :=
  ∃ k : Nat, k ≤ 3 ∧ v = .int .i64 (k : Int) ∧ Hid ((0 < k → bitB m 6 = false) ∧ (1 < k → bitB m 3 = false) ∧ (2 < k → bitB m 0 = false)) ∧ Below W.heap.size W w ∧ w.cell? ⟨b, 3, none⟩ = some (.int .i64 m)

set_option maxHeartbeats 1000000 in
theorem searched_any (n : Nv) (w : World) (ht : Tab w) :
    Calls Tryz.prog 271 #[nodeV n] w fun e w' => e = .returned (.bool (anyB n.mode)) ∧ Below w.heap.size w w' := by
  have HT := Lib.hid ht
  clear ht
  unfold nodeV
  go_enter Tryz.func271, Tryz.ntmps271
  go_wp2_with (refine wpList_load_mid rfl 328 (.global 5) rfl 5 0 rfl classCells _ (HT.out.keep ((Below.refl _ _).alloc (Nat.le_refl _) _)).cell Tryz.underlying328 rfl sizeClasses ?_)
  go_loopw [6] (SRel w w.heap.size n.mode) (fun v _ => (3 - intOf v).toNat)
  case atStart => exact ⟨0, by decide, rfl, Lib.hid ⟨by omega, by omega, by omega⟩, (Below.refl _ _).alloc (Nat.le_refl _) _, by rw [World.cell?_alloc_at _ _ _ _ rfl]; rfl⟩
  case round =>
    obtain ⟨k, hk, rfl, hz, hb, hc⟩ := hrel
    have hlt := cell_lt hc
    have hlt' : w.heap.size < wr.heap.size := hlt
    clear hlt
    have HB := Lib.hid hb
    clear hb
    have hk' : k = 0 ∨ k = 1 ∨ k = 2 ∨ k = 3 := by omega
    clear hk
    rcases hk' with rfl | rfl | rfl | rfl
    · have hi := class0
      by_cases hq : bitB n.mode 6 = true
      · have HA := Lib.hid (show anyB n.mode = true by unfold anyB; rw [hq]; simp)
        have HQ := Lib.hid hq
        clear hq
        go_wp2_with (go_at_call 226; refine (setAt 6 _ rfl (by decide) _ _).mono ?_; rintro e w' ⟨rfl, rfl⟩; rw [HQ.out])
        go_ret
        refine ⟨pret_bool HA.out.symm, ?_⟩
        refine pbelow_two HB.out ?_
        repeat (first | (with_reducible apply Below.setCell (hp := ?_)) | (with_reducible apply Below.alloc (hB := ?_)) | (with_reducible exact Below.refl _ _) | (simp; done))
      · have hq' : bitB n.mode 6 = false := by simpa using hq
        have HQ := Lib.hid hq'
        have HZ : Hid ((0 < 1 → bitB n.mode 6 = false) ∧ (1 < 1 → bitB n.mode 3 = false) ∧ (2 < 1 → bitB n.mode 0 = false)) := Lib.hid (by have := hz.out; simp_all)
        clear hq hq' hz
        go_wp2_with (go_at_call 226; refine (setAt 6 _ rfl (by decide) _ _).mono ?_; rintro e w' ⟨rfl, rfl⟩; rw [HQ.out])
        go_roundw
        case rel =>
          refine ⟨1, by decide, rfl, HZ, ?_, ?_⟩
          · refine pbelow_two HB.out ?_
            repeat (first | (with_reducible apply Below.setCell (hp := ?_)) | (with_reducible apply Below.alloc (hB := ?_)) | (with_reducible exact Below.refl _ _) | (simp; done))
          · go_simp
        case measure => decide
    · have hi := class1
      by_cases hq : bitB n.mode 3 = true
      · have HA := Lib.hid (show anyB n.mode = true by unfold anyB; rw [hq]; simp)
        have HQ := Lib.hid hq
        clear hq
        go_wp2_with (go_at_call 226; refine (setAt 3 _ rfl (by decide) _ _).mono ?_; rintro e w' ⟨rfl, rfl⟩; rw [HQ.out])
        go_ret
        refine ⟨pret_bool HA.out.symm, ?_⟩
        refine pbelow_two HB.out ?_
        repeat (first | (with_reducible apply Below.setCell (hp := ?_)) | (with_reducible apply Below.alloc (hB := ?_)) | (with_reducible exact Below.refl _ _) | (simp; done))
      · have hq' : bitB n.mode 3 = false := by simpa using hq
        have HQ := Lib.hid hq'
        have HZ : Hid ((0 < 2 → bitB n.mode 6 = false) ∧ (1 < 2 → bitB n.mode 3 = false) ∧ (2 < 2 → bitB n.mode 0 = false)) := Lib.hid (by have := hz.out; simp_all)
        clear hq hq' hz
        go_wp2_with (go_at_call 226; refine (setAt 3 _ rfl (by decide) _ _).mono ?_; rintro e w' ⟨rfl, rfl⟩; rw [HQ.out])
        go_roundw
        case rel =>
          refine ⟨2, by decide, rfl, HZ, ?_, ?_⟩
          · refine pbelow_two HB.out ?_
            repeat (first | (with_reducible apply Below.setCell (hp := ?_)) | (with_reducible apply Below.alloc (hB := ?_)) | (with_reducible exact Below.refl _ _) | (simp; done))
          · go_simp
        case measure => decide
    · have hi := class2
      by_cases hq : bitB n.mode 0 = true
      · have HA := Lib.hid (show anyB n.mode = true by unfold anyB; rw [hq]; simp)
        have HQ := Lib.hid hq
        clear hq
        go_wp2_with (go_at_call 226; refine (setAt 0 _ rfl (by decide) _ _).mono ?_; rintro e w' ⟨rfl, rfl⟩; rw [HQ.out])
        go_ret
        refine ⟨pret_bool HA.out.symm, ?_⟩
        refine pbelow_two HB.out ?_
        repeat (first | (with_reducible apply Below.setCell (hp := ?_)) | (with_reducible apply Below.alloc (hB := ?_)) | (with_reducible exact Below.refl _ _) | (simp; done))
      · have hq' : bitB n.mode 0 = false := by simpa using hq
        have HQ := Lib.hid hq'
        have HZ : Hid ((0 < 3 → bitB n.mode 6 = false) ∧ (1 < 3 → bitB n.mode 3 = false) ∧ (2 < 3 → bitB n.mode 0 = false)) := Lib.hid (by have := hz.out; simp_all)
        clear hq hq' hz
        go_wp2_with (go_at_call 226; refine (setAt 0 _ rfl (by decide) _ _).mono ?_; rintro e w' ⟨rfl, rfl⟩; rw [HQ.out])
        go_roundw
        case rel =>
          refine ⟨3, by decide, rfl, HZ, ?_, ?_⟩
          · refine pbelow_two HB.out ?_
            repeat (first | (with_reducible apply Below.setCell (hp := ?_)) | (with_reducible apply Below.alloc (hB := ?_)) | (with_reducible exact Below.refl _ _) | (simp; done))
          · go_simp
        case measure => decide
    · have HA := Lib.hid (show anyB n.mode = false by obtain ⟨a, b, c⟩ := hz.out; unfold anyB; rw [a (by decide), b (by decide), c (by decide)]; rfl)
      clear hz
      go_wp2
      go_ret
      exact ⟨pret_bool HA.out.symm, HB.out⟩
end Go.Proofs.YtknfhphhcnbndaaGreatDoor.P

namespace Go.Proofs.YtknfhphhcnbndaaGreatDoor.P
open Go.RowKit

def credV (u g : Int) : Value := .agg #[.int .i64 u, .int .i64 g]
def bitsP (n : Nv) (u g : Int) : Int := if u = 0 then (if n.kind = 2 ∨ anyB n.mode = true then 7 else 6) else if u = n.uid then n.mode / 2 ^ 6 else if g = n.gid then n.mode / 2 ^ 3 else n.mode 
theorem pret_int {k : IntKind} {a b : Int} (h : a = b) : Ending.returned (.int k a) = .returned (.int k b) := by rw [h]

set_option maxHeartbeats 1000000 in
theorem bitsFor_any (n : Nv) (u g : Int) (w : World) (ht : Tab w) :
    Calls Tryz.prog 225 #[nodeV n, credV u g] w fun e w' => e = .returned (.int .i64 (bitsP n u g)) ∧ Below w.heap.size w w' := by
  have HT := Lib.hid ht
  clear ht
  unfold nodeV credV
  by_cases h0 : u = 0
  · subst h0
    by_cases h2 : n.kind = 2
    · have HR := Lib.hid (show bitsP n 0 g = 7 by unfold bitsP; rw [if_pos rfl, if_pos (.inl h2)])
      have t2 : (n.kind == 2) = true := by rw [h2]; rfl
      clear h2
      go_enter Tryz.func225, Tryz.ntmps225
      go_wp2
      go_ret
      exact ⟨pret_int HR.out.symm, by (repeat (first | (with_reducible apply Below.setCell (hp := ?_)) | (with_reducible apply Below.alloc (hB := ?_)) | (with_reducible exact Below.refl _ _) | (simp; done) | omega))⟩
    · have t2 : (n.kind == 2) = false := beq_eq_false_iff_ne.2 h2
      cases hq : anyB n.mode
      · have HR := Lib.hid (show bitsP n 0 g = 6 by unfold bitsP; rw [if_pos rfl, if_neg (by rw [hq]; simp [h2])])
        have HS := Lib.hid (searched_any n)
        rw [hq] at HS
        unfold nodeV at HS
        clear h2 hq
        go_enter Tryz.func225, Tryz.ntmps225
        go_wp2_with fail
        refine (HS.out _ (HT.out.keep (by (repeat (first | (with_reducible apply Below.setCell (hp := ?_)) | (with_reducible apply Below.alloc (hB := ?_)) | (with_reducible exact Below.refl _ _) | (simp; done) | omega))))).mono ?_
        rintro e w1 ⟨rfl, hb1⟩
        have HB := Lib.hid (show Below w.heap.size w w1 from (show Below w.heap.size w _ from by (repeat (first | (with_reducible apply Below.setCell (hp := ?_)) | (with_reducible apply Below.alloc (hB := ?_)) | (with_reducible exact Below.refl _ _) | (simp; done) | omega))).trans (hb1.mono (by simp; omega)))
        have c1 : w1.cell? ⟨w.heap.size + 1, 0, none⟩ = some (.int .i64 0) := by rw [hb1.cell (by simp)]; go_simp
        clear hb1
        go_wp2_with fail
        go_ret
        exact ⟨pret_int HR.out.symm, HB.out⟩
      · have HR := Lib.hid (show bitsP n 0 g = 7 by unfold bitsP; rw [if_pos rfl, if_pos (.inr hq)])
        have HS := Lib.hid (searched_any n)
        rw [hq] at HS
        unfold nodeV at HS
        clear h2 hq
        go_enter Tryz.func225, Tryz.ntmps225
        go_wp2_with fail
        refine (HS.out _ (HT.out.keep (by (repeat (first | (with_reducible apply Below.setCell (hp := ?_)) | (with_reducible apply Below.alloc (hB := ?_)) | (with_reducible exact Below.refl _ _) | (simp; done) | omega))))).mono ?_
        rintro e w1 ⟨rfl, hb1⟩
        have HB := Lib.hid (show Below w.heap.size w w1 from (show Below w.heap.size w _ from by (repeat (first | (with_reducible apply Below.setCell (hp := ?_)) | (with_reducible apply Below.alloc (hB := ?_)) | (with_reducible exact Below.refl _ _) | (simp; done) | omega))).trans (hb1.mono (by simp; omega)))
        have c1 : w1.cell? ⟨w.heap.size + 1, 0, none⟩ = some (.int .i64 0) := by rw [hb1.cell (by simp)]; go_simp
        clear hb1
        go_wp2_with fail
        go_ret
        exact ⟨pret_int HR.out.symm, HB.out⟩
  · have t0 : (u == 0) = false := beq_eq_false_iff_ne.2 h0
    by_cases hu : u = n.uid
    · have HR := Lib.hid (show bitsP n u g = n.mode / 2 ^ 6 by unfold bitsP; rw [if_neg h0, if_pos hu])
      have t1 : (u == n.uid) = true := beq_iff_eq.2 hu
      clear hu h0
      go_enter Tryz.func225, Tryz.ntmps225
      go_wp2
      go_ret
      exact ⟨pret_int HR.out.symm, by (repeat (first | (with_reducible apply Below.setCell (hp := ?_)) | (with_reducible apply Below.alloc (hB := ?_)) | (with_reducible exact Below.refl _ _) | (simp; done) | omega))⟩
    · have t1 : (u == n.uid) = false := beq_eq_false_iff_ne.2 hu
      by_cases hg : g = n.gid
      · have HR := Lib.hid (show bitsP n u g = n.mode / 2 ^ 3 by unfold bitsP; rw [if_neg h0, if_neg hu, if_pos hg])
        have t3 : (g == n.gid) = true := beq_iff_eq.2 hg
        clear hu h0 hg
        go_enter Tryz.func225, Tryz.ntmps225
        go_wp2
        go_ret
        exact ⟨pret_int HR.out.symm, by (repeat (first | (with_reducible apply Below.setCell (hp := ?_)) | (with_reducible apply Below.alloc (hB := ?_)) | (with_reducible exact Below.refl _ _) | (simp; done) | omega))⟩
      · have HR := Lib.hid (show bitsP n u g = n.mode by unfold bitsP; rw [if_neg h0, if_neg hu, if_neg hg])
        have t3 : (g == n.gid) = false := beq_eq_false_iff_ne.2 hg
        clear hu h0 hg
        go_enter Tryz.func225, Tryz.ntmps225
        go_wp2
        go_ret
        exact ⟨pret_int HR.out.symm, by (repeat (first | (with_reducible apply Below.setCell (hp := ?_)) | (with_reducible apply Below.alloc (hB := ?_)) | (with_reducible exact Below.refl _ _) | (simp; done) | omega))⟩

def mayB (b want : Int) : Bool := (!bitB want 2 || bitB b 2) && (!bitB want 1 || bitB b 1) && (!bitB want 0 || bitB b 0)
/-- Before the round for bit a: all that is wanted of the bits above it is there. -/
def MRel (W : World) (b want : Int) (v : Value) (w : World) : Prop :=
  ∃ a : Int, -1 ≤ a ∧ a ≤ 2 ∧ v = .int .i64 a ∧ Hid ((a < 2 → (!bitB want 2 || bitB b 2) = true) ∧ (a < 1 → (!bitB want 1 || bitB b 1) = true) ∧ (a < 0 → (!bitB want 0 || bitB b 0) = true)) ∧ Below W.heap.size W w

set_option maxHeartbeats 1000000 in
theorem may_any (n : Nv) (u g want : Int) (w : World) (ht : Tab w) :
    Calls Tryz.prog 168 #[nodeV n, credV u g, .int .i64 want] w fun e w' => e = .returned (.bool (mayB (bitsP n u g) want)) ∧ Below w.heap.size w w' := by
  have HT := Lib.hid ht
  clear ht
  obtain ⟨b, hbp⟩ : ∃ b, bitsP n u g = b := ⟨_, rfl⟩
  have HC := Lib.hid (bitsFor_any n u g)
  rw [hbp] at HC
  rw [hbp]
  clear hbp
  unfold nodeV credV at HC
  unfold nodeV credV
  go_enter Tryz.func168, Tryz.ntmps168
  go_wp2_with fail
  refine (HC.out _ (HT.out.keep (by (repeat (first | (with_reducible apply Below.setCell (hp := ?_)) | (with_reducible apply Below.alloc (hB := ?_)) | (with_reducible exact Below.refl _ _) | (simp; done) | omega))))).mono ?_
  rintro e w1 ⟨rfl, hb1⟩
  have HB := Lib.hid (show Below w.heap.size w w1 from (show Below w.heap.size w _ from by (repeat (first | (with_reducible apply Below.setCell (hp := ?_)) | (with_reducible apply Below.alloc (hB := ?_)) | (with_reducible exact Below.refl _ _) | (simp; done) | omega))).trans (hb1.mono (by simp; omega)))
  clear hb1
  go_wp2_with fail
  go_loopw [8] (MRel w b want) (fun v _ => (intOf v + 1).toNat)
  case atStart => exact ⟨2, by decide, by decide, rfl, Lib.hid ⟨by omega, by omega, by omega⟩, HB.out⟩
  case round =>
    clear HB
    obtain ⟨a, ha0, ha1, rfl, hz, hb⟩ := hrel
    have HB := Lib.hid hb
    clear hb
    have ha : a = 2 ∨ a = 1 ∨ a = 0 ∨ a = -1 := by omega
    clear ha0 ha1
    rcases ha with rfl | rfl | rfl | rfl
    · have set1 := fun w' => setAt 2 2 rfl (by decide) want w'
      have set2 := fun w' => setAt 2 2 rfl (by decide) b w'
      cases hq : bitB want 2
      · have HQ := Lib.hid hq
        have HZ : Hid (((1 : Int) < 2 → (!bitB want 2 || bitB b 2) = true) ∧ ((1 : Int) < 1 → (!bitB want 1 || bitB b 1) = true) ∧ ((1 : Int) < 0 → (!bitB want 0 || bitB b 0) = true)) := Lib.hid (by have := hz.out; simp_all)
        have H1 := Lib.hid set1
        clear hq hz set1 set2
        go_wp2_with (go_at_call 226; refine (H1.out _).mono ?_; rintro e w' ⟨rfl, rfl⟩; rw [HQ.out])
        go_roundw
        case rel => exact ⟨1, by decide, by decide, rfl, HZ, HB.out⟩
        case measure => decide
      · cases hp : bitB b 2
        · have HF := Lib.hid (show mayB b want = false by unfold mayB; rw [hq, hp]; simp)
          have HQ := Lib.hid hq
          have HP := Lib.hid hp
          have H1 := Lib.hid set1
          have H2 := Lib.hid set2
          clear hq hp hz set1 set2
          go_wp2_with fail
          refine (H1.out _).mono ?_
          rintro e w' ⟨rfl, rfl⟩
          rw [HQ.out]
          go_wp2_with fail
          refine (H2.out _).mono ?_
          rintro e w' ⟨rfl, rfl⟩
          rw [HP.out]
          go_wp2_with fail
          go_ret
          exact ⟨pret_bool HF.out.symm, HB.out⟩
        · have HQ := Lib.hid hq
          have HP := Lib.hid hp
          have HZ : Hid (((1 : Int) < 2 → (!bitB want 2 || bitB b 2) = true) ∧ ((1 : Int) < 1 → (!bitB want 1 || bitB b 1) = true) ∧ ((1 : Int) < 0 → (!bitB want 0 || bitB b 0) = true)) := Lib.hid (by have := hz.out; simp_all)
          have H1 := Lib.hid set1
          have H2 := Lib.hid set2
          clear hq hp hz set1 set2
          go_wp2_with fail
          refine (H1.out _).mono ?_
          rintro e w' ⟨rfl, rfl⟩
          rw [HQ.out]
          go_wp2_with fail
          refine (H2.out _).mono ?_
          rintro e w' ⟨rfl, rfl⟩
          rw [HP.out]
          go_wp2_with fail
          go_roundw
          case rel => exact ⟨1, by decide, by decide, rfl, HZ, HB.out⟩
          case measure => decide
    · have set1 := fun w' => setAt 1 1 rfl (by decide) want w'
      have set2 := fun w' => setAt 1 1 rfl (by decide) b w'
      cases hq : bitB want 1
      · have HQ := Lib.hid hq
        have HZ : Hid (((0 : Int) < 2 → (!bitB want 2 || bitB b 2) = true) ∧ ((0 : Int) < 1 → (!bitB want 1 || bitB b 1) = true) ∧ ((0 : Int) < 0 → (!bitB want 0 || bitB b 0) = true)) := Lib.hid (by have := hz.out; simp_all)
        have H1 := Lib.hid set1
        clear hq hz set1 set2
        go_wp2_with (go_at_call 226; refine (H1.out _).mono ?_; rintro e w' ⟨rfl, rfl⟩; rw [HQ.out])
        go_roundw
        case rel => exact ⟨0, by decide, by decide, rfl, HZ, HB.out⟩
        case measure => decide
      · cases hp : bitB b 1
        · have HF := Lib.hid (show mayB b want = false by unfold mayB; rw [hq, hp]; simp)
          have HQ := Lib.hid hq
          have HP := Lib.hid hp
          have H1 := Lib.hid set1
          have H2 := Lib.hid set2
          clear hq hp hz set1 set2
          go_wp2_with fail
          refine (H1.out _).mono ?_
          rintro e w' ⟨rfl, rfl⟩
          rw [HQ.out]
          go_wp2_with fail
          refine (H2.out _).mono ?_
          rintro e w' ⟨rfl, rfl⟩
          rw [HP.out]
          go_wp2_with fail
          go_ret
          exact ⟨pret_bool HF.out.symm, HB.out⟩
        · have HQ := Lib.hid hq
          have HP := Lib.hid hp
          have HZ : Hid (((0 : Int) < 2 → (!bitB want 2 || bitB b 2) = true) ∧ ((0 : Int) < 1 → (!bitB want 1 || bitB b 1) = true) ∧ ((0 : Int) < 0 → (!bitB want 0 || bitB b 0) = true)) := Lib.hid (by have := hz.out; simp_all)
          have H1 := Lib.hid set1
          have H2 := Lib.hid set2
          clear hq hp hz set1 set2
          go_wp2_with fail
          refine (H1.out _).mono ?_
          rintro e w' ⟨rfl, rfl⟩
          rw [HQ.out]
          go_wp2_with fail
          refine (H2.out _).mono ?_
          rintro e w' ⟨rfl, rfl⟩
          rw [HP.out]
          go_wp2_with fail
          go_roundw
          case rel => exact ⟨0, by decide, by decide, rfl, HZ, HB.out⟩
          case measure => decide
    · have set1 := fun w' => setAt 0 0 rfl (by decide) want w'
      have set2 := fun w' => setAt 0 0 rfl (by decide) b w'
      cases hq : bitB want 0
      · have HQ := Lib.hid hq
        have HZ : Hid (((-1 : Int) < 2 → (!bitB want 2 || bitB b 2) = true) ∧ ((-1 : Int) < 1 → (!bitB want 1 || bitB b 1) = true) ∧ ((-1 : Int) < 0 → (!bitB want 0 || bitB b 0) = true)) := Lib.hid (by have := hz.out; simp_all)
        have H1 := Lib.hid set1
        clear hq hz set1 set2
        go_wp2_with (go_at_call 226; refine (H1.out _).mono ?_; rintro e w' ⟨rfl, rfl⟩; rw [HQ.out])
        go_roundw
        case rel => exact ⟨-1, by decide, by decide, rfl, HZ, HB.out⟩
        case measure => decide
      · cases hp : bitB b 0
        · have HF := Lib.hid (show mayB b want = false by unfold mayB; rw [hq, hp]; simp)
          have HQ := Lib.hid hq
          have HP := Lib.hid hp
          have H1 := Lib.hid set1
          have H2 := Lib.hid set2
          clear hq hp hz set1 set2
          go_wp2_with fail
          refine (H1.out _).mono ?_
          rintro e w' ⟨rfl, rfl⟩
          rw [HQ.out]
          go_wp2_with fail
          refine (H2.out _).mono ?_
          rintro e w' ⟨rfl, rfl⟩
          rw [HP.out]
          go_wp2_with fail
          go_ret
          exact ⟨pret_bool HF.out.symm, HB.out⟩
        · have HQ := Lib.hid hq
          have HP := Lib.hid hp
          have HZ : Hid (((-1 : Int) < 2 → (!bitB want 2 || bitB b 2) = true) ∧ ((-1 : Int) < 1 → (!bitB want 1 || bitB b 1) = true) ∧ ((-1 : Int) < 0 → (!bitB want 0 || bitB b 0) = true)) := Lib.hid (by have := hz.out; simp_all)
          have H1 := Lib.hid set1
          have H2 := Lib.hid set2
          clear hq hp hz set1 set2
          go_wp2_with fail
          refine (H1.out _).mono ?_
          rintro e w' ⟨rfl, rfl⟩
          rw [HQ.out]
          go_wp2_with fail
          refine (H2.out _).mono ?_
          rintro e w' ⟨rfl, rfl⟩
          rw [HP.out]
          go_wp2_with fail
          go_roundw
          case rel => exact ⟨-1, by decide, by decide, rfl, HZ, HB.out⟩
          case measure => decide
    · have HA := Lib.hid (show mayB b want = true by obtain ⟨x, y, z⟩ := hz.out; unfold mayB; rw [x (by decide), y (by decide), z (by decide)]; rfl)
      clear hz
      go_wp2
      go_ret
      exact ⟨pret_bool HA.out.symm, HB.out⟩
end Go.Proofs.YtknfhphhcnbndaaGreatDoor.P

namespace Go.Proofs.YtknfhphhcnbndaaGreatDoor.G
open Go.ChangeShapes Go.WideShapes Go.ChangeAt Go.RowKit Go.Deep

theorem own : ownKnob Tryz.prog.godebug = none := V.own
theorem laidOut : laidOutB Tryz.prog = true := V.laidOut
def htxt (l : List UInt8) : ByteArray := ⟨l.toArray⟩
theorem gCls : Tryz.prog.globalNamed "domesday/perm.classes" = some 5 := by kernel_rfl
theorem gClsType : (Tryz.prog.globals[5]?).map (·.type) = some 328 := by kernel_rfl
theorem cellsCls : Tryz.prog.cellsOf 327 = 4 := by kernel_rfl
set_option maxRecDepth 100000 in
/-- A class that reads as two numbers and two texts holds them, cell by cell. -/
theorem cls_of {H : Type} {enc : TypeId × Value → H} {w : World} {base : Nat} {sp : Nat → Bool} {held : Bool} {fuel : Nat} {cs : List Value} {f s : Int} {x X : List UInt8} {y : DataW H × List MemPlace}
    (h : DataW.trod enc Tryz.prog w base sp held fuel 327 cs = some y) (hy : y.1 = .agg [.lit (.int .i64 f), .lit (.int .i64 s), .lit (.string x), .lit (.string X)]) :
    cs[0]? = some (.int .i64 f) ∧ cs[1]? = some (.int .i64 s) ∧ cs[2]? = some (.string (htxt x)) ∧ cs[3]? = some (.string (htxt X)) := by
  obtain ⟨ys, n, _, rfl, hl, hyl, hf⟩ := DataW.trod_struct Tryz.underlying327 h
  rw [cellsCls] at hl
  have f0 := hf 0 _ rfl
  have f1 := hf 1 _ rfl
  have f2 := hf 2 _ rfl
  have f3 := hf 3 _ rfl
  clear hf
  match cs, hl, ys, hyl with
  | [c0, c1, c2, c3], _, [y0, y1, y2, y3], _ =>
    simp [V.cellsInt, V.cellsStr] at f0 f1 f2 f3
    obtain ⟨n0, e0, k0, _⟩ := DataW.trod_int Tryz.underlying3 f0
    obtain ⟨n1, e1, k1, _⟩ := DataW.trod_int Tryz.underlying3 f1
    obtain ⟨s2, e2, k2, _⟩ := DataW.trod_string Tryz.underlying9 f2
    obtain ⟨s3, e3, k3, _⟩ := DataW.trod_string Tryz.underlying9 f3
    simp at e0 e1 e2 e3
    simp [k0, k1, k2, k3] at hy
    obtain ⟨h0, h1, h2, h3⟩ := hy
    refine ⟨by rw [e0, h0]; rfl, by rw [e1, h1]; rfl, ?_, ?_⟩
    · rw [e2, ← h2]; cases s2; simp [htxt]
    · rw [e3, ← h3]; cases s3; simp [htxt]

set_option maxRecDepth 100000 in
theorem tab_of {W : World} {x : String × DataW Unit} {l : List (String × DataW Unit)} (h : laidMet Tryz.prog (x :: ("domesday/perm.classes", Rows.laid_domesday_perm_classes) :: l) W) : P.Tab W := by
  obtain ⟨ps, ⟨_, _, _, _, _, _, _, _, _, _, ⟨g', t', cs, fuel, p, q, hg', ht', hvar, hd, _, _⟩, _⟩, _⟩ := h
  obtain rfl := Option.some.inj (gCls.symm.trans hg')
  obtain rfl := Option.some.inj (gClsType.symm.trans ht')
  obtain ⟨xs, m, _, hx, hlen, hxl, ha⟩ := DataW.trod_array Tryz.underlying328 hd
  have a0 := ha 0 (by decide)
  have a1 := ha 1 (by decide)
  have a2 := ha 2 (by decide)
  clear ha
  have hx1 := congrArg Prod.fst hx
  unfold Rows.laid_domesday_perm_classes at hx1
  match xs, hxl with
  | [z0, z1, z2], _ =>
    simp only [List.map_cons, List.map_nil, DataW.agg.injEq, List.cons.injEq, and_true] at hx1
    obtain ⟨k0, k1, k2⟩ := hx1
    rw [cellsCls] at a0 a1 a2
    have c0 := cls_of a0 k0.symm
    have c1 := cls_of a1 k1.symm
    have c2 := cls_of a2 k2.symm
    refine ⟨fun j v hj => ?_⟩
    rw [World.var?_cell gCls hvar (0 + j)]
    simp at c0 c1 c2
    have hl : j < 12 := (List.getElem?_eq_some_iff.1 hj).1
    match j, hl, hj with
    | 0, _, hj => cases Option.some.inj hj; exact c0.1
    | 1, _, hj => cases Option.some.inj hj; exact c0.2.1
    | 2, _, hj => cases Option.some.inj hj; exact c0.2.2.1
    | 3, _, hj => cases Option.some.inj hj; exact c0.2.2.2
    | 4, _, hj => cases Option.some.inj hj; exact c1.1
    | 5, _, hj => cases Option.some.inj hj; exact c1.2.1
    | 6, _, hj => cases Option.some.inj hj; exact c1.2.2.1
    | 7, _, hj => cases Option.some.inj hj; exact c1.2.2.2
    | 8, _, hj => cases Option.some.inj hj; exact c2.1
    | 9, _, hj => cases Option.some.inj hj; exact c2.2.1
    | 10, _, hj => cases Option.some.inj hj; exact c2.2.2.1
    | 11, _, hj => cases Option.some.inj hj; exact c2.2.2.2
end Go.Proofs.YtknfhphhcnbndaaGreatDoor.G

namespace Go.Proofs.YtknfhphhcnbndaaGreatDoor.V

/-- Does byte i of a text stand for a slash? -/
def sl (s : ByteArray) (i : Nat) : Bool := (s.get! i).toNat == 47
/-- One step: at the end, or at a slash, what stands behind the last one is a name, if it isn't empty. -/
def nmStep (s : ByteArray) (i : Nat) (x : List (Nat × Nat) × Nat) : List (Nat × Nat) × Nat :=
  if i = s.size ∨ sl s i = true then ((if x.2 < i then x.1 ++ [(x.2, i)] else x.1), i + 1) else x
def nmGo (s : ByteArray) : Nat → List (Nat × Nat) × Nat
  | 0 => ([], 0)
  | i + 1 => nmStep s i (nmGo s i)
/-- Where the names of a text lie. -/
def nmSpans (s : ByteArray) : List (Nat × Nat) := (nmGo s (s.size + 1)).1
def namesL (s : ByteArray) : List ByteArray := (nmSpans s).map fun x => s.extract x.1 x.2
def isSl (r : Nat) : Bool := r == 47

theorem nmGo_le (s : ByteArray) : ∀ i, (nmGo s i).2 ≤ i
  | 0 => Nat.le_refl _
  | i + 1 => by
    have := nmGo_le s i
    rw [nmGo, nmStep]
    split
    · exact Nat.le_refl _
    · omega
/-- Bytes that are no slashes change nothing. -/
theorem nmGo_skip (s : ByteArray) (i : Nat) : ∀ k, (∀ j, j < k → i + j < s.size ∧ sl s (i + j) = false) → nmGo s (i + k) = nmGo s i
  | 0, _ => rfl
  | k + 1, h => by
    have ih := nmGo_skip s i k (fun j hj => h j (by omega))
    obtain ⟨h1, h2⟩ := h k (by omega)
    rw [show i + (k + 1) = (i + k) + 1 by omega, nmGo, nmStep, if_neg (by rw [h2]; simp; omega), ih]

theorem decode_sl (s : ByteArray) (i : Nat) (hi : i < s.size) : (isSl (Utf8.decode s i).1 = true → sl s i = true ∧ (Utf8.decode s i).2 = 1) ∧ (isSl (Utf8.decode s i).1 = false → ∀ j, j < (Utf8.decode s i).2 → i + j < s.size ∧ sl s (i + j) = false) := by
  rw [Lib.decode_at]
  have hc := Lib.decodeN_conts (s.size - i) (s.get! i).toNat (s.get! (i + 1)).toNat (s.get! (i + 2)).toNat (s.get! (i + 3)).toNat
  have e0 : sl s i = ((s.get! i).toNat == 47) := rfl
  have e1 : sl s (i + 1) = ((s.get! (i + 1)).toNat == 47) := rfl
  have e2 : sl s (i + 2) = ((s.get! (i + 2)).toNat == 47) := rfl
  have e3 : sl s (i + 3) = ((s.get! (i + 3)).toNat == 47) := rfl
  generalize (s.get! i).toNat = b0 at *
  generalize (s.get! (i + 1)).toNat = b1 at *
  generalize (s.get! (i + 2)).toNat = b2 at *
  generalize (s.get! (i + 3)).toNat = b3 at *
  have H : (b0 < 128 ∧ Lib.decodeN (s.size - i) b0 b1 b2 b3 = (b0, 1)) ∨ (128 ≤ b0 ∧ 48 ≤ (Lib.decodeN (s.size - i) b0 b1 b2 b3).1) := by
    rcases Lib.decodeN_cases (s.size - i) b0 b1 b2 b3 with h | ⟨a, b, c, d, e⟩ | ⟨a, b, c, c', d, e⟩ | ⟨a, b⟩ | e
    · exact .inl h
    · exact .inr ⟨by omega, by rw [e]; show 48 ≤ _; omega⟩
    · exact .inr ⟨by omega, by rw [e]; show 48 ≤ _; omega⟩
    · refine .inr ⟨?_, by omega⟩
      by_cases q : b0 < 128
      · rw [Lib.decodeN_ascii _ _ _ _ _ q] at b; simp at b
      · omega
    · by_cases q : b0 < 128
      · exact .inl ⟨q, Lib.decodeN_ascii _ _ _ _ _ q⟩
      · exact .inr ⟨by omega, by rw [e]; show 48 ≤ _; omega⟩
  constructor
  · intro h
    unfold isSl at h
    rcases H with ⟨q, e⟩ | ⟨q, e⟩
    · rw [e] at h ⊢
      exact ⟨by rw [e0]; exact h, rfl⟩
    · rw [beq_iff_eq] at h; omega
  · intro h j hj
    have z0 : sl s i = false := by
      rw [e0, beq_eq_false_iff_ne]
      rcases H with ⟨q, e⟩ | ⟨q, e⟩
      · rw [e] at h; unfold isSl at h; exact beq_eq_false_iff_ne.1 h
      · omega
    obtain ⟨c1, c2, c3, c4⟩ := hc
    match j, hj with
    | 0, _ => exact ⟨by omega, z0⟩
    | 1, hj => have := c1 (by omega); exact ⟨by omega, by rw [e1, beq_eq_false_iff_ne]; omega⟩
    | 2, hj => have := c2 (by omega); exact ⟨by omega, by rw [e2, beq_eq_false_iff_ne]; omega⟩
    | 3, hj => have := c3 (by omega); exact ⟨by omega, by rw [e3, beq_eq_false_iff_ne]; omega⟩
    | j + 4, hj => omega

def accOf (st : Option Nat) (pos : Nat) (acc : List (Nat × Nat)) : List (Nat × Nat) := match st with
  | some a => acc ++ [(a, pos)]
  | none => acc
theorem spans_yes {p : Nat → Bool} {s : ByteArray} {f pos : Nat} {st : Option Nat} {acc : List (Nat × Nat)} (h : pos < s.size) (hp : p (Utf8.decode s pos).1 = true) :
    Lib.spansFromP p s (f + 1) pos st acc = Lib.spansFromP p s f (pos + (Utf8.decode s pos).2) none (accOf st pos acc) := by
  cases st <;> simp [Lib.spansFromP, h, hp, accOf]
theorem spans_no {p : Nat → Bool} {s : ByteArray} {f pos : Nat} {st : Option Nat} {acc : List (Nat × Nat)} (h : pos < s.size) (hp : p (Utf8.decode s pos).1 = false) :
    Lib.spansFromP p s (f + 1) pos st acc = Lib.spansFromP p s f (pos + (Utf8.decode s pos).2) (some (st.getD pos)) acc := by
  cases st <;> simp [Lib.spansFromP, h, hp]
def stOf (x : List (Nat × Nat) × Nat) (i : Nat) : Option Nat := if x.2 < i then some x.2 else none
theorem spans_nm (s : ByteArray) : ∀ (f pos : Nat), pos ≤ s.size → s.size ≤ pos + f →
    Lib.closeSpans s (Lib.spansFromP isSl s f pos (stOf (nmGo s pos) pos) (nmGo s pos).1) = nmSpans s
  | f, pos, hp, hf => by
    by_cases hlt : pos < s.size
    · obtain ⟨f, rfl⟩ : ∃ g, f = g + 1 := ⟨f - 1, by omega⟩
      obtain ⟨d1, d2⟩ := decode_sl s pos hlt
      have hw := Lib.width_pos s pos
      cases hb : isSl (Utf8.decode s pos).1 with
      | true =>
        obtain ⟨s1, s2⟩ := d1 hb
        have ih := spans_nm s f (pos + 1) (by omega) (by omega)
        have eg : nmGo s (pos + 1) = ((if (nmGo s pos).2 < pos then (nmGo s pos).1 ++ [((nmGo s pos).2, pos)] else (nmGo s pos).1), pos + 1) := by
          rw [nmGo, nmStep, if_pos (.inr s1)]
        rw [spans_yes hlt hb, s2]
        rw [eg] at ih
        have e0 : stOf ((if (nmGo s pos).2 < pos then (nmGo s pos).1 ++ [((nmGo s pos).2, pos)] else (nmGo s pos).1), pos + 1) (pos + 1) = none := by
          unfold stOf
          rw [if_neg (by show ¬ pos + 1 < pos + 1; omega)]
        rw [e0] at ih
        unfold stOf
        by_cases q : (nmGo s pos).2 < pos
        · rw [if_pos q]
          rw [if_pos q] at ih
          exact ih
        · rw [if_neg q]
          rw [if_neg q] at ih
          exact ih
      | false =>
        have hk := d2 hb
        rw [spans_no hlt hb]
        generalize hkk : (Utf8.decode s pos).2 = k at *
        have hle : pos + k ≤ s.size := by have := (hk (k - 1) (by omega)).1; omega
        have ih := spans_nm s f (pos + k) hle (by omega)
        rw [nmGo_skip s pos k hk] at ih
        have hn := nmGo_le s pos
        unfold stOf at ih ⊢
        rw [if_pos (by omega)] at ih
        by_cases q : (nmGo s pos).2 < pos
        · rw [if_pos q]
          exact ih
        · rw [if_neg q]
          have e : (nmGo s pos).2 = pos := by omega
          rw [e] at ih
          exact ih
    · obtain rfl : pos = s.size := by omega
      rw [Lib.spansFromP_end isSl s f _ _ _ hlt]
      unfold nmSpans
      rw [nmGo, nmStep, if_pos (.inl rfl)]
      unfold stOf Lib.closeSpans
      by_cases q : (nmGo s s.size).2 < s.size
      · rw [if_pos q, if_pos q]
      · rw [if_neg q, if_neg q]
theorem fields_names (s : ByteArray) : Lib.goFieldsP isSl s = namesL s := by
  unfold Lib.goFieldsP namesL Lib.spansOfP
  have := spans_nm s s.size 0 (Nat.zero_le _) (by omega)
  have e : stOf (nmGo s 0) 0 = none := rfl
  rw [e] at this
  exact congrArg (List.map fun x => s.extract x.1 x.2) this
/-- How many, and where. -/
theorem nmGo_ok (s : ByteArray) : ∀ i, i ≤ s.size + 1 → (nmGo s i).1.length ≤ i ∧ ∀ x ∈ (nmGo s i).1, x.1 < x.2 ∧ x.2 ≤ s.size
  | 0, _ => ⟨Nat.le_refl _, fun x hx => by simp [nmGo] at hx⟩
  | i + 1, h => by
    obtain ⟨h1, h2⟩ := nmGo_ok s i (by omega)
    rw [nmGo, nmStep]
    split
    · split
      · refine ⟨by simp; omega, fun x hx => ?_⟩
        rcases List.mem_append.1 hx with hx | hx
        · exact h2 x hx
        · simp at hx; subst hx; exact ⟨by assumption, by show i ≤ _; omega⟩
      · exact ⟨by show (nmGo s i).1.length ≤ i + 1; omega, h2⟩
    · exact ⟨by omega, h2⟩
end Go.Proofs.YtknfhphhcnbndaaGreatDoor.V

namespace Go.Proofs.YtknfhphhcnbndaaGreatDoor.V
open Go.RowKit Go.Shelf

def strs (l : List ByteArray) : List Value := l.map Value.string
def beginsB (s : ByteArray) : Bool := Lib.hasPrefix s.data.toList [47]
def endsB (s : ByteArray) : Bool := Lib.hasSuffix s.data.toList [47]

theorem clo_pays (w : World) : PredAt Tryz.prog 187 #[] encR isSl w := fun W r _ => by
  unfold FnGives
  go_enter Tryz.func187, Tryz.ntmps187
  go_wp2
  go_ret
  refine ⟨?_, 0, rfl⟩
  have e : ((r : Int) == 47) = isSl r := by
    unfold isSl
    rw [Bool.eq_iff_iff, beq_iff_eq, beq_iff_eq]
    omega
  rw [e]
  rfl

theorem names_any (s : ByteArray) (w : World) (hs : s.size ≤ 100000) :
    Calls Tryz.prog 135 #[.string s] w fun e w' => ∃ A, e = .returned (.tuple #[.slice (some ⟨A, 0, none⟩) (namesL s).length (namesL s).length, .bool (beginsB s), .bool (endsB s)]) ∧ w.heap.size ≤ A ∧
      w'.ownsRow w.heap.size 9 1 (.slice (some ⟨A, 0, none⟩) (namesL s).length (namesL s).length) (namesL s).length (strs (namesL s)) ∧ Below w.heap.size w w' := by
  have cF : Calls Tryz.prog 186 #[.string s, .func (.func 187) #[] #[]] w _ := Tryz.strings_FieldsFunc 187 #[] (enters_of Tryz.func187 (by kernel_rfl) rfl) isSl s w (by omega) (clo_pays w)
  rw [fields_names] at cF
  have HC := Lib.hid cF
  clear cF
  go_enter Tryz.func135, Tryz.ntmps135
  go_wp2_with (first
    | (go_at_call 186; refine HC.out.mono ?_; rintro e w2 ⟨A, rfl, hA, hown, hb⟩; have HO := Lib.hid hown; have HB := Lib.hid hb; clear hown hb)
    | (go_at_call 68; refine (Tryz.strings_HasPrefix _ _ _).mono ?_; rintro e w3 ⟨rfl, hw⟩; subst hw)
    | (go_at_call 172; refine (Tryz.strings_HasSuffix _ _ _ (by omega)).mono ?_; rintro e w3 ⟨rfl, hw⟩; subst hw))
  exact bodyPost_ret (v := .tuple #[.slice (some ⟨A, 0, none⟩) (namesL s).length (namesL s).length, .bool (beginsB s), .bool (endsB s)]) (by simp [results, Tryz.results135, go_sem, beginsB, endsB]) rfl ⟨A, rfl, hA, HO.out, HB.out⟩

theorem infoStr : (Tryz.prog.info? 9).map (fun i => (i.zero, i.size, i.bytes)) = some (some (.string ⟨#[]⟩), 1, 16) := by kernel_rfl

end Go.Proofs.YtknfhphhcnbndaaGreatDoor.V

namespace Go.Proofs.YtknfhphhcnbndaaGreatDoor.V
open Go.Proofs.YtknfhphhcnbndaaGreatDoor.P
open Go.RowKit

/-- A node as perm's texts have it. -/
def nvOf (n : Nd) : Nv := ⟨n.dev, n.ino, n.kind, n.mode, n.uid, n.gid, n.size, n.blocks, n.links, n.t0, n.t1, n.t2, n.target⟩
def zeroNv : Nv := ⟨0, 0, 0, 0, 0, 0, 0, 0, 0, 0, 0, 0, ⟨#[]⟩⟩
def nvAt (M : List Nd) (i : Int) : Nv := match atM M i with
  | none => zeroNv
  | some n => nvOf n
theorem nodeV_nv (M : List Nd) (i : Int) : nodeV' M i = nodeV (nvAt M i) := by
  unfold nodeV' nvAt
  cases atM M i <;> rfl
def kindM (M : List Nd) (i : Int) : Int := (nvAt M i).kind
/-- A place: the node, and by which name's entry it was come to. -/
structure Pl where
  id : Int
  dir : Int
  name : ByteArray
def plOf (i : Int) : Pl := ⟨i, i, ⟨#[]⟩⟩
def findE (s : ByteArray) : List (ByteArray × Int) → Option Int
  | [] => none
  | x :: r => if sameT x.1 s = true then some x.2 else findE s r
/-- From a directory by a name. -/
def entW (M : List Nd) (u g : Int) (at_ : Int) (s : ByteArray) : Except Int Pl :=
  if kindM M at_ = 2 then
    (if mayB (bitsP (nvAt M at_) u g) 1 = true then
      (if s.size ≤ 255 then
        (if s.toList = [46] then .ok (plOf at_)
         else if s.toList = [46, 46] then .ok (plOf (overI M (upI M at_)))
         else if listE M at_ = 0 then
           (match findE s (listL M at_) with
            | none => .error 2
            | some i => .ok ⟨overI M i, at_, s⟩)
         else .error (listE M at_))
       else .error 7)
     else .error 5)
  else .error 3
/-- Is a node a link that is followed? -/
def thruW (M : List Nd) (follow slash : Bool) (r : List ByteArray) (i : Int) : Bool := kindM M i == 3 && (follow || (slash || decide (0 < r.length)))
/-- What a walk comes to: the error, or 0; the place; how many links were followed. -/
structure Res where
  err : Int
  pl : Pl
  hops : Int
def bad (e : Int) : Res := ⟨e, ⟨0, 0, ⟨#[]⟩⟩, 0⟩
def endW (M : List Nd) (slash : Bool) (p : Pl) (hops : Int) : Res :=
  if slash = true ∧ kindM M p.id ≠ 2 then bad 3 else ⟨0, p, hops⟩
/-- Along names, until a link is met. -/
def goL (M : List Nd) (u g : Int) (follow : Bool) (hops : Int) (k : Int → List ByteArray → Pl → Bool → Res) : List ByteArray → Pl → Bool → Res
  | [], p, slash => endW M slash p hops
  | s :: r, p, slash => match entW M u g p.id s with
    | .error e => bad e
    | .ok q => if thruW M follow slash r q.id = true then k q.id r p slash else goL M u g follow hops k r q slash
/-- With h links still to be followed. -/
def goW (M : List Nd) (u g : Int) (follow : Bool) : Nat → List ByteArray → Pl → Bool → Res
  | 0, l, p, slash => goL M u g follow 40 (fun _ _ _ _ => bad 6) l p slash
  | h + 1, l, p, slash => goL M u g follow (40 - (h + 1 : Nat)) (fun i r q sl => if linkE M i = 0 then goW M u g follow h (namesL (linkT M i) ++ r) (if beginsB (linkT M i) = true then plOf 0 else q) (sl || (endsB (linkT M i) && r.isEmpty)) else bad (linkE M i)) l p slash
def walkW (M : List Nd) (u g : Int) (s : ByteArray) (follow : Bool) : Res :=
  if s.size = 0 then bad 2 else if 4096 < s.size then bad 7 else goW M u g follow 40 (namesL s) (plOf 0) (endsB s)
def kOf (M : List Nd) (u g : Int) (follow : Bool) : Nat → Int → List ByteArray → Pl → Bool → Res
  | 0 => fun _ _ _ _ => bad 6
  | h + 1 => fun i r q sl => if linkE M i = 0 then goW M u g follow h (namesL (linkT M i) ++ r) (if beginsB (linkT M i) = true then plOf 0 else q) (sl || (endsB (linkT M i) && r.isEmpty)) else bad (linkE M i)
theorem goW_nil (M : List Nd) (u g : Int) (follow : Bool) (h : Nat) (p : Pl) (sl : Bool) : goW M u g follow h [] p sl = endW M sl p (40 - (h : Int)) := by
  cases h <;> rfl
theorem goW_cons (M : List Nd) (u g : Int) (follow : Bool) (h : Nat) (s : ByteArray) (r : List ByteArray) (p : Pl) (sl : Bool) : goW M u g follow h (s :: r) p sl =
    match entW M u g p.id s with
    | .error e => bad e
    | .ok q => if thruW M follow sl r q.id = true then kOf M u g follow h q.id r p sl else goW M u g follow h r q sl := by
  cases h <;> rfl
theorem entW_err {M : List Nd} {u g i : Int} {s : ByteArray} {e : Int} (h : entW M u g i s = .error e) : e ≠ 0 := by
  unfold entW at h
  by_cases h1 : kindM M i = 2
  · rw [if_pos h1] at h
    by_cases h2 : mayB (bitsP (nvAt M i) u g) 1 = true
    · rw [if_pos h2] at h
      by_cases h3 : s.size ≤ 255
      · rw [if_pos h3] at h
        by_cases h4 : s.toList = [46]
        · rw [if_pos h4] at h; cases h
        · rw [if_neg h4] at h
          by_cases h5 : s.toList = [46, 46]
          · rw [if_pos h5] at h; cases h
          · rw [if_neg h5] at h
            by_cases h6 : listE M i = 0
            · rw [if_pos h6] at h
              cases hf : findE s (listL M i) with
              | none => rw [hf] at h; have := Except.error.inj h; omega
              | some j => rw [hf] at h; cases h
            · rw [if_neg h6] at h
              have := Except.error.inj h
              omega
      · rw [if_neg h3] at h; have := Except.error.inj h; omega
    · rw [if_neg h2] at h; have := Except.error.inj h; omega
  · rw [if_neg h1] at h; have := Except.error.inj h; omega
theorem known_nv (n : Nv) : nodeV n = .agg #[.int .i64 n.dev, .int .i64 n.ino, .int .i64 n.kind, .int .i64 n.mode, .int .i64 n.uid, .int .i64 n.gid, .int .i64 n.size, .int .i64 n.blocks, .int .i64 n.links, .int .i64 n.ta, .int .i64 n.tb, .int .i64 n.tc, .string n.target] := rfl
end Go.Proofs.YtknfhphhcnbndaaGreatDoor.V

namespace Go.Proofs.YtknfhphhcnbndaaGreatDoor.Z
open Go.ChangeShapes Go.WideShapes Go.ChangeAt Go.RowKit Go.Deep
theorem own : ownKnob Tryz.prog.godebug = none := V.own
theorem laidOut : laidOutB Tryz.prog = true := V.laidOut
theorem max_of {W : World} (h : W.ShapedOpen Tryz.prog) : A.MaxT W :=
  cell_of_shapedOpen_int (zero := #[.int .i64 0]) h (of_decide_eq_true (by kernel_rfl)) (by kernel_rfl) rfl (by kernel_rfl) (by kernel_rfl) Tryz.underlying3
structure ZTab (W : World) : Prop where
  t : P.Tab W
  m : A.MaxT W
theorem tab_of {X : World} {a b c d e f g h : String × DataW Unit} {l : List (String × DataW Unit)} (q : laidMet Tryz.prog (a :: b :: c :: d :: e :: f :: g :: h :: ("domesday/perm.classes", Rows.laid_domesday_perm_classes) :: l) X) (hs : X.ShapedOpen Tryz.prog) : ZTab X :=
  ⟨G.tab_of q.tail.tail.tail.tail.tail.tail.tail, max_of hs⟩
end Go.Proofs.YtknfhphhcnbndaaGreatDoor.Z

namespace Go.Proofs.YtknfhphhcnbndaaGreatDoor.ZQ
open Go.ChangeShapes Go.WideShapes Go.ChangeAt Go.RowKit Go.Deep
theorem own : ownKnob Tryz.prog.godebug = none := V.own
theorem laidOut : laidOutB Tryz.prog = true := V.laidOut
structure QTab (W : World) : Prop where
  z : Z.ZTab W
  q : Q.Tab W
theorem tab_of {X : World} {a b c d e f g h i : String × DataW Unit} (q : laidMet Tryz.prog [a, b, c, d, e, ("unicode/utf8.acceptRanges", Rows.laid_unicode_utf8_acceptRanges), f, g, ("domesday/perm.classes", Rows.laid_domesday_perm_classes), h, i, ("unicode/utf8.first", Rows.laid_unicode_utf8_first)] X) (hsh : X.ShapedOpen Tryz.prog) : QTab X := by
  refine ⟨Z.tab_of q hsh, utf8Tabs_of_reads { Tryz.lays197 with } Q.u8Extra ?_ ?_, Tryz.laysM155.s1_3 X hsh⟩
  · rw [← Q.first_is]; exact Lib.laidMet.reads q (by simp)
  · rw [← Q.accept_is]; exact Lib.laidMet.reads q (by simp)
end Go.Proofs.YtknfhphhcnbndaaGreatDoor.ZQ
