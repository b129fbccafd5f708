/-
  The bits of a number; a node as a value; the table of the classes; what perm's set, letter, searched and bitsFor return. Conditions: the table of classes lies as its text lays it; numbers are int64s.
  What perm's searched returns: may anybody search. Conditions: the table of classes lies as its text lays it.
  What perm's bitsFor and May return. Conditions: the table of classes lies as its text lays it.
  What the listed package-level variables give the walks: the table of classes. Conditions: each fact's own.
-/
import Derived.Test.YtpikndeefiediaaGreatDoorRows
import Derived.WalkKit
import Derived.WalkSpells
import Derived.WalkLawsBesides
import Derived.Lib.Hide
import Derived.Lib.OthersKept
import Derived.Deep.QuietTactic
import Derived.BigQuiet
import Derived.Deep.WholeRow
import Derived.Deep.MidRow
import Derived.Test.YtpikndeefiediaaGreatDoorCards
import Derived.Test.YtpikndeefiediaaGreatDoorTie
import Derived.Test.YtpikndeefiediaaGreatDoorKVArg
import Derived.Lib.LaidTab
import Derived.ChangeOld
import Derived.Below
import Derived.LaidMore
import Derived.ChangeSame
import Derived.Lay
import Derived.Deep.DeepHandedRow
import Derived.Deep.DeepWitnessRowRef
import Derived.Stop.LaidErr
set_option linter.unusedVariables false
set_option linter.unusedSimpArgs false
namespace Go.Proofs.YtpikndeefiediaaGreatDoor.P
open Go.RowKit

/-- The k-th bit of a number, from the lowest one. -/
def bitB (b : Int) (k : Nat) : Bool := decide (b / 2 ^ k % 2 = 1)
theorem and_one (x : Int) : bits .and .i64 x 1 = x % 2 := by
  have h : ((BitVec.ofInt 64 x &&& BitVec.ofInt 64 1).toNat : Int) = x % 2 := by
    rw [BitVec.toNat_and, show (BitVec.ofInt 64 1).toNat = 1 from by decide, Nat.and_one_is_mod, BitVec.toNat_ofInt]
    omega
  have h2 : bits .and .i64 x 1 = IntKind.i64.wrap ((BitVec.ofInt 64 x &&& BitVec.ofInt 64 1).toNat : Int) := rfl
  rw [h2, h]
  have e : x % 2 = 0 ∨ x % 2 = 1 := by omega
  rcases e with e | e <;> rw [e] <;> decide
theorem pret_bool {a b : Bool} (h : a = b) : Ending.returned (.bool a) = .returned (.bool b) := by rw [h]

theorem pset_any (b : Int) (k : Nat) (w : World) (hk : k ≤ 62) :
    Calls Tryz.prog 71 #[.int .i64 b, .int .i64 (k : Int)] w fun e w' => e = .returned (.bool (bitB b k)) ∧ w = w' := by
  have hb : (bits BinOp.and IntKind.i64 (b / 2 ^ k) 1 == 1) = bitB b k := by
    rw [and_one]
    unfold bitB
    by_cases h : b / 2 ^ k % 2 = 1
    · rw [decide_eq_true h, h]; rfl
    · rw [decide_eq_false h]; exact beq_eq_false_iff_ne.2 h
  have HB := Lib.hid hb
  clear hb
  go_enter Tryz.func71, Tryz.ntmps71
  go_wp2
  go_ret
  exact ⟨pret_bool HB.out, rfl⟩
theorem setAt (k : Nat) (i : Int) (h : i = (k : Int)) (hk : k ≤ 62) (b : Int) (w : World) :
    Calls Tryz.prog 71 #[.int .i64 b, .int .i64 i] w fun e w' => e = .returned (.bool (bitB b k)) ∧ w = w' := by subst h; exact pset_any b k w hk


/-- A node: its thirteen cells. -/
structure Nv where
  dev : Int
  ino : Int
  kind : Int
  mode : Int
  uid : Int
  gid : Int
  size : Int
  blocks : Int
  links : Int
  ta : Int
  tb : Int
  tc : Int
  target : ByteArray
def nodeV (n : Nv) : Value := .agg #[.int .i64 n.dev, .int .i64 n.ino, .int .i64 n.kind, .int .i64 n.mode, .int .i64 n.uid, .int .i64 n.gid, .int .i64 n.size, .int .i64 n.blocks, .int .i64 n.links, .int .i64 n.ta, .int .i64 n.tb, .int .i64 n.tc, .string n.target]

/-- The table of classes. -/
def classCells : List Value := [.int .i64 6, .int .i64 11, .string ⟨#[115]⟩, .string ⟨#[83]⟩, .int .i64 3, .int .i64 10, .string ⟨#[115]⟩, .string ⟨#[83]⟩, .int .i64 0, .int .i64 9, .string ⟨#[116]⟩, .string ⟨#[84]⟩]
structure Tab (w : World) : Prop where
  cell : w.rangeAt 0 0 classCells
theorem cell_lt {w : World} {a : Addr} {v : Value} (h : w.cell? a = some v) : a.block < w.heap.size := by
  apply Classical.byContradiction
  intro hn
  have : w.heap[a.block]? = none := Array.getElem?_eq_none (by omega)
  unfold World.cell? at h
  simp [this] at h
theorem Tab.keep {w w' : World} (h : Tab w) (hb : Below w.heap.size w w') : Tab w' :=
  ⟨fun j v hj => by rw [hb.cell (p := ⟨0, 0 + j, none⟩) (cell_lt (h.cell j v hj))]; exact h.cell j v hj⟩
theorem pbelow_two {w a b : World} (h : Below w.heap.size w a) (k : Below a.heap.size a b) : Below w.heap.size w b := h.trans (k.mono h.size)
theorem sizeClasses : (Tryz.prog.info? 151).map (·.size) = some classCells.length := by kernel_rfl
theorem class0 : ∀ w : World, (Instr.index 151 (.agg classCells.toArray) (.int .i64 0)).run Tryz.prog w = .ok (.agg #[.int .i64 6, .int .i64 11, .string ⟨#[115]⟩, .string ⟨#[83]⟩]) w := fun _ => by kernel_rfl
theorem class1 : ∀ w : World, (Instr.index 151 (.agg classCells.toArray) (.int .i64 1)).run Tryz.prog w = .ok (.agg #[.int .i64 3, .int .i64 10, .string ⟨#[115]⟩, .string ⟨#[83]⟩]) w := fun _ => by kernel_rfl
theorem class2 : ∀ w : World, (Instr.index 151 (.agg classCells.toArray) (.int .i64 2)).run Tryz.prog w = .ok (.agg #[.int .i64 0, .int .i64 9, .string ⟨#[116]⟩, .string ⟨#[84]⟩]) w := fun _ => by kernel_rfl

def anyB (m : Int) : Bool := bitB m 6 || bitB m 3 || bitB m 0
end Go.Proofs.YtpikndeefiediaaGreatDoor.P

namespace Go.Proofs.YtpikndeefiediaaGreatDoor.P
open Go.RowKit

/-- Before round k: nobody of the first k classes searches; the table and the box are as they were. -/
def SRel (W : World) (b : Nat) (m : Int) (v : Value) (w : World) : Prop :=
  ∃ k : Nat, k ≤ 3 ∧ v = .int .i64 (k : Int) ∧ Hid ((0 < k → bitB m 6 = false) ∧ (1 < k → bitB m 3 = false) ∧ (2 < k → bitB m 0 = false)) ∧ Below W.heap.size W w ∧ w.cell? ⟨b, 3, none⟩ = some (.int .i64 m)

set_option maxHeartbeats 1000000 in
theorem searched_any (n : Nv) (w : World) (ht : Tab w) :
    Calls Tryz.prog 78 #[nodeV n] w fun e w' => e = .returned (.bool (anyB n.mode)) ∧ Below w.heap.size w w' := by
  have HT := Lib.hid ht
  clear ht
  unfold nodeV
  go_enter Tryz.func78, Tryz.ntmps78
  go_wp2_with (refine wpList_load_mid rfl 151 (.global 0) rfl 0 0 rfl classCells _ (HT.out.keep ((Below.refl _ _).alloc (Nat.le_refl _) _)).cell Tryz.underlying151 rfl sizeClasses ?_)
  go_loopw [6] (SRel w w.heap.size n.mode) (fun v _ => (3 - intOf v).toNat)
  case atStart => exact ⟨0, by decide, rfl, Lib.hid ⟨by omega, by omega, by omega⟩, (Below.refl _ _).alloc (Nat.le_refl _) _, by rw [World.cell?_alloc_at _ _ _ _ rfl]; rfl⟩
  case round =>
    obtain ⟨k, hk, rfl, hz, hb, hc⟩ := hrel
    have hlt := cell_lt hc
    have hlt' : w.heap.size < wr.heap.size := hlt
    clear hlt
    have HB := Lib.hid hb
    clear hb
    have hk' : k = 0 ∨ k = 1 ∨ k = 2 ∨ k = 3 := by omega
    clear hk
    rcases hk' with rfl | rfl | rfl | rfl
    · have hi := class0
      by_cases hq : bitB n.mode 6 = true
      · have HA := Lib.hid (show anyB n.mode = true by unfold anyB; rw [hq]; simp)
        have HQ := Lib.hid hq
        clear hq
        go_wp2_with (go_at_call 71; refine (setAt 6 _ rfl (by decide) _ _).mono ?_; rintro e w' ⟨rfl, rfl⟩; rw [HQ.out])
        go_ret
        refine ⟨pret_bool HA.out.symm, ?_⟩
        refine pbelow_two HB.out ?_
        repeat (first | (with_reducible apply Below.setCell (hp := ?_)) | (with_reducible apply Below.alloc (hB := ?_)) | (with_reducible exact Below.refl _ _) | (simp; done))
      · have hq' : bitB n.mode 6 = false := by simpa using hq
        have HQ := Lib.hid hq'
        have HZ : Hid ((0 < 1 → bitB n.mode 6 = false) ∧ (1 < 1 → bitB n.mode 3 = false) ∧ (2 < 1 → bitB n.mode 0 = false)) := Lib.hid (by have := hz.out; simp_all)
        clear hq hq' hz
        go_wp2_with (go_at_call 71; refine (setAt 6 _ rfl (by decide) _ _).mono ?_; rintro e w' ⟨rfl, rfl⟩; rw [HQ.out])
        go_roundw
        case rel =>
          refine ⟨1, by decide, rfl, HZ, ?_, ?_⟩
          · refine pbelow_two HB.out ?_
            repeat (first | (with_reducible apply Below.setCell (hp := ?_)) | (with_reducible apply Below.alloc (hB := ?_)) | (with_reducible exact Below.refl _ _) | (simp; done))
          · go_simp
        case measure => decide
    · have hi := class1
      by_cases hq : bitB n.mode 3 = true
      · have HA := Lib.hid (show anyB n.mode = true by unfold anyB; rw [hq]; simp)
        have HQ := Lib.hid hq
        clear hq
        go_wp2_with (go_at_call 71; refine (setAt 3 _ rfl (by decide) _ _).mono ?_; rintro e w' ⟨rfl, rfl⟩; rw [HQ.out])
        go_ret
        refine ⟨pret_bool HA.out.symm, ?_⟩
        refine pbelow_two HB.out ?_
        repeat (first | (with_reducible apply Below.setCell (hp := ?_)) | (with_reducible apply Below.alloc (hB := ?_)) | (with_reducible exact Below.refl _ _) | (simp; done))
      · have hq' : bitB n.mode 3 = false := by simpa using hq
        have HQ := Lib.hid hq'
        have HZ : Hid ((0 < 2 → bitB n.mode 6 = false) ∧ (1 < 2 → bitB n.mode 3 = false) ∧ (2 < 2 → bitB n.mode 0 = false)) := Lib.hid (by have := hz.out; simp_all)
        clear hq hq' hz
        go_wp2_with (go_at_call 71; refine (setAt 3 _ rfl (by decide) _ _).mono ?_; rintro e w' ⟨rfl, rfl⟩; rw [HQ.out])
        go_roundw
        case rel =>
          refine ⟨2, by decide, rfl, HZ, ?_, ?_⟩
          · refine pbelow_two HB.out ?_
            repeat (first | (with_reducible apply Below.setCell (hp := ?_)) | (with_reducible apply Below.alloc (hB := ?_)) | (with_reducible exact Below.refl _ _) | (simp; done))
          · go_simp
        case measure => decide
    · have hi := class2
      by_cases hq : bitB n.mode 0 = true
      · have HA := Lib.hid (show anyB n.mode = true by unfold anyB; rw [hq]; simp)
        have HQ := Lib.hid hq
        clear hq
        go_wp2_with (go_at_call 71; refine (setAt 0 _ rfl (by decide) _ _).mono ?_; rintro e w' ⟨rfl, rfl⟩; rw [HQ.out])
        go_ret
        refine ⟨pret_bool HA.out.symm, ?_⟩
        refine pbelow_two HB.out ?_
        repeat (first | (with_reducible apply Below.setCell (hp := ?_)) | (with_reducible apply Below.alloc (hB := ?_)) | (with_reducible exact Below.refl _ _) | (simp; done))
      · have hq' : bitB n.mode 0 = false := by simpa using hq
        have HQ := Lib.hid hq'
        have HZ : Hid ((0 < 3 → bitB n.mode 6 = false) ∧ (1 < 3 → bitB n.mode 3 = false) ∧ (2 < 3 → bitB n.mode 0 = false)) := Lib.hid (by have := hz.out; simp_all)
        clear hq hq' hz
        go_wp2_with (go_at_call 71; refine (setAt 0 _ rfl (by decide) _ _).mono ?_; rintro e w' ⟨rfl, rfl⟩; rw [HQ.out])
        go_roundw
        case rel =>
          refine ⟨3, by decide, rfl, HZ, ?_, ?_⟩
          · refine pbelow_two HB.out ?_
            repeat (first | (with_reducible apply Below.setCell (hp := ?_)) | (with_reducible apply Below.alloc (hB := ?_)) | (with_reducible exact Below.refl _ _) | (simp; done))
          · go_simp
        case measure => decide
    · have HA := Lib.hid (show anyB n.mode = false by obtain ⟨a, b, c⟩ := hz.out; unfold anyB; rw [a (by decide), b (by decide), c (by decide)]; rfl)
      clear hz
      go_wp2
      go_ret
      exact ⟨pret_bool HA.out.symm, HB.out⟩
end Go.Proofs.YtpikndeefiediaaGreatDoor.P

namespace Go.Proofs.YtpikndeefiediaaGreatDoor.P
open Go.RowKit

def credV (u g : Int) : Value := .agg #[.int .i64 u, .int .i64 g]
def bitsP (n : Nv) (u g : Int) : Int := if u = 0 then (if n.kind = 2 ∨ anyB n.mode = true then 7 else 6) else if u = n.uid then n.mode / 2 ^ 6 else if g = n.gid then n.mode / 2 ^ 3 else n.mode 
theorem pret_int {k : IntKind} {a b : Int} (h : a = b) : Ending.returned (.int k a) = .returned (.int k b) := by rw [h]

set_option maxHeartbeats 1000000 in
theorem bitsFor_any (n : Nv) (u g : Int) (w : World) (ht : Tab w) :
    Calls Tryz.prog 70 #[nodeV n, credV u g] w fun e w' => e = .returned (.int .i64 (bitsP n u g)) ∧ Below w.heap.size w w' := by
  have HT := Lib.hid ht
  clear ht
  unfold nodeV credV
  by_cases h0 : u = 0
  · subst h0
    by_cases h2 : n.kind = 2
    · have HR := Lib.hid (show bitsP n 0 g = 7 by unfold bitsP; rw [if_pos rfl, if_pos (.inl h2)])
      have t2 : (n.kind == 2) = true := by rw [h2]; rfl
      clear h2
      go_enter Tryz.func70, Tryz.ntmps70
      go_wp2
      go_ret
      exact ⟨pret_int HR.out.symm, by (repeat (first | (with_reducible apply Below.setCell (hp := ?_)) | (with_reducible apply Below.alloc (hB := ?_)) | (with_reducible exact Below.refl _ _) | (simp; done) | omega))⟩
    · have t2 : (n.kind == 2) = false := beq_eq_false_iff_ne.2 h2
      cases hq : anyB n.mode
      · have HR := Lib.hid (show bitsP n 0 g = 6 by unfold bitsP; rw [if_pos rfl, if_neg (by rw [hq]; simp [h2])])
        have HS := Lib.hid (searched_any n)
        rw [hq] at HS
        unfold nodeV at HS
        clear h2 hq
        go_enter Tryz.func70, Tryz.ntmps70
        go_wp2_with fail
        refine (HS.out _ (HT.out.keep (by (repeat (first | (with_reducible apply Below.setCell (hp := ?_)) | (with_reducible apply Below.alloc (hB := ?_)) | (with_reducible exact Below.refl _ _) | (simp; done) | omega))))).mono ?_
        rintro e w1 ⟨rfl, hb1⟩
        have HB := Lib.hid (show Below w.heap.size w w1 from (show Below w.heap.size w _ from by (repeat (first | (with_reducible apply Below.setCell (hp := ?_)) | (with_reducible apply Below.alloc (hB := ?_)) | (with_reducible exact Below.refl _ _) | (simp; done) | omega))).trans (hb1.mono (by simp; omega)))
        have c1 : w1.cell? ⟨w.heap.size + 1, 0, none⟩ = some (.int .i64 0) := by rw [hb1.cell (by simp)]; go_simp
        clear hb1
        go_wp2_with fail
        go_ret
        exact ⟨pret_int HR.out.symm, HB.out⟩
      · have HR := Lib.hid (show bitsP n 0 g = 7 by unfold bitsP; rw [if_pos rfl, if_pos (.inr hq)])
        have HS := Lib.hid (searched_any n)
        rw [hq] at HS
        unfold nodeV at HS
        clear h2 hq
        go_enter Tryz.func70, Tryz.ntmps70
        go_wp2_with fail
        refine (HS.out _ (HT.out.keep (by (repeat (first | (with_reducible apply Below.setCell (hp := ?_)) | (with_reducible apply Below.alloc (hB := ?_)) | (with_reducible exact Below.refl _ _) | (simp; done) | omega))))).mono ?_
        rintro e w1 ⟨rfl, hb1⟩
        have HB := Lib.hid (show Below w.heap.size w w1 from (show Below w.heap.size w _ from by (repeat (first | (with_reducible apply Below.setCell (hp := ?_)) | (with_reducible apply Below.alloc (hB := ?_)) | (with_reducible exact Below.refl _ _) | (simp; done) | omega))).trans (hb1.mono (by simp; omega)))
        have c1 : w1.cell? ⟨w.heap.size + 1, 0, none⟩ = some (.int .i64 0) := by rw [hb1.cell (by simp)]; go_simp
        clear hb1
        go_wp2_with fail
        go_ret
        exact ⟨pret_int HR.out.symm, HB.out⟩
  · have t0 : (u == 0) = false := beq_eq_false_iff_ne.2 h0
    by_cases hu : u = n.uid
    · have HR := Lib.hid (show bitsP n u g = n.mode / 2 ^ 6 by unfold bitsP; rw [if_neg h0, if_pos hu])
      have t1 : (u == n.uid) = true := beq_iff_eq.2 hu
      clear hu h0
      go_enter Tryz.func70, Tryz.ntmps70
      go_wp2
      go_ret
      exact ⟨pret_int HR.out.symm, by (repeat (first | (with_reducible apply Below.setCell (hp := ?_)) | (with_reducible apply Below.alloc (hB := ?_)) | (with_reducible exact Below.refl _ _) | (simp; done) | omega))⟩
    · have t1 : (u == n.uid) = false := beq_eq_false_iff_ne.2 hu
      by_cases hg : g = n.gid
      · have HR := Lib.hid (show bitsP n u g = n.mode / 2 ^ 3 by unfold bitsP; rw [if_neg h0, if_neg hu, if_pos hg])
        have t3 : (g == n.gid) = true := beq_iff_eq.2 hg
        clear hu h0 hg
        go_enter Tryz.func70, Tryz.ntmps70
        go_wp2
        go_ret
        exact ⟨pret_int HR.out.symm, by (repeat (first | (with_reducible apply Below.setCell (hp := ?_)) | (with_reducible apply Below.alloc (hB := ?_)) | (with_reducible exact Below.refl _ _) | (simp; done) | omega))⟩
      · have HR := Lib.hid (show bitsP n u g = n.mode by unfold bitsP; rw [if_neg h0, if_neg hu, if_neg hg])
        have t3 : (g == n.gid) = false := beq_eq_false_iff_ne.2 hg
        clear hu h0 hg
        go_enter Tryz.func70, Tryz.ntmps70
        go_wp2
        go_ret
        exact ⟨pret_int HR.out.symm, by (repeat (first | (with_reducible apply Below.setCell (hp := ?_)) | (with_reducible apply Below.alloc (hB := ?_)) | (with_reducible exact Below.refl _ _) | (simp; done) | omega))⟩

def mayB (b want : Int) : Bool := (!bitB want 2 || bitB b 2) && (!bitB want 1 || bitB b 1) && (!bitB want 0 || bitB b 0)
/-- Before the round for bit a: all that is wanted of the bits above it is there. -/
def MRel (W : World) (b want : Int) (v : Value) (w : World) : Prop :=
  ∃ a : Int, -1 ≤ a ∧ a ≤ 2 ∧ v = .int .i64 a ∧ Hid ((a < 2 → (!bitB want 2 || bitB b 2) = true) ∧ (a < 1 → (!bitB want 1 || bitB b 1) = true) ∧ (a < 0 → (!bitB want 0 || bitB b 0) = true)) ∧ Below W.heap.size W w

set_option maxHeartbeats 1000000 in
theorem may_any (n : Nv) (u g want : Int) (w : World) (ht : Tab w) :
    Calls Tryz.prog 62 #[nodeV n, credV u g, .int .i64 want] w fun e w' => e = .returned (.bool (mayB (bitsP n u g) want)) ∧ Below w.heap.size w w' := by
  have HT := Lib.hid ht
  clear ht
  obtain ⟨b, hbp⟩ : ∃ b, bitsP n u g = b := ⟨_, rfl⟩
  have HC := Lib.hid (bitsFor_any n u g)
  rw [hbp] at HC
  rw [hbp]
  clear hbp
  unfold nodeV credV at HC
  unfold nodeV credV
  go_enter Tryz.func62, Tryz.ntmps62
  go_wp2_with fail
  refine (HC.out _ (HT.out.keep (by (repeat (first | (with_reducible apply Below.setCell (hp := ?_)) | (with_reducible apply Below.alloc (hB := ?_)) | (with_reducible exact Below.refl _ _) | (simp; done) | omega))))).mono ?_
  rintro e w1 ⟨rfl, hb1⟩
  have HB := Lib.hid (show Below w.heap.size w w1 from (show Below w.heap.size w _ from by (repeat (first | (with_reducible apply Below.setCell (hp := ?_)) | (with_reducible apply Below.alloc (hB := ?_)) | (with_reducible exact Below.refl _ _) | (simp; done) | omega))).trans (hb1.mono (by simp; omega)))
  clear hb1
  go_wp2_with fail
  go_loopw [8] (MRel w b want) (fun v _ => (intOf v + 1).toNat)
  case atStart => exact ⟨2, by decide, by decide, rfl, Lib.hid ⟨by omega, by omega, by omega⟩, HB.out⟩
  case round =>
    clear HB
    obtain ⟨a, ha0, ha1, rfl, hz, hb⟩ := hrel
    have HB := Lib.hid hb
    clear hb
    have ha : a = 2 ∨ a = 1 ∨ a = 0 ∨ a = -1 := by omega
    clear ha0 ha1
    rcases ha with rfl | rfl | rfl | rfl
    · have set1 := fun w' => setAt 2 2 rfl (by decide) want w'
      have set2 := fun w' => setAt 2 2 rfl (by decide) b w'
      cases hq : bitB want 2
      · have HQ := Lib.hid hq
        have HZ : Hid (((1 : Int) < 2 → (!bitB want 2 || bitB b 2) = true) ∧ ((1 : Int) < 1 → (!bitB want 1 || bitB b 1) = true) ∧ ((1 : Int) < 0 → (!bitB want 0 || bitB b 0) = true)) := Lib.hid (by have := hz.out; simp_all)
        have H1 := Lib.hid set1
        clear hq hz set1 set2
        go_wp2_with (go_at_call 71; refine (H1.out _).mono ?_; rintro e w' ⟨rfl, rfl⟩; rw [HQ.out])
        go_roundw
        case rel => exact ⟨1, by decide, by decide, rfl, HZ, HB.out⟩
        case measure => decide
      · cases hp : bitB b 2
        · have HF := Lib.hid (show mayB b want = false by unfold mayB; rw [hq, hp]; simp)
          have HQ := Lib.hid hq
          have HP := Lib.hid hp
          have H1 := Lib.hid set1
          have H2 := Lib.hid set2
          clear hq hp hz set1 set2
          go_wp2_with fail
          refine (H1.out _).mono ?_
          rintro e w' ⟨rfl, rfl⟩
          rw [HQ.out]
          go_wp2_with fail
          refine (H2.out _).mono ?_
          rintro e w' ⟨rfl, rfl⟩
          rw [HP.out]
          go_wp2_with fail
          go_ret
          exact ⟨pret_bool HF.out.symm, HB.out⟩
        · have HQ := Lib.hid hq
          have HP := Lib.hid hp
          have HZ : Hid (((1 : Int) < 2 → (!bitB want 2 || bitB b 2) = true) ∧ ((1 : Int) < 1 → (!bitB want 1 || bitB b 1) = true) ∧ ((1 : Int) < 0 → (!bitB want 0 || bitB b 0) = true)) := Lib.hid (by have := hz.out; simp_all)
          have H1 := Lib.hid set1
          have H2 := Lib.hid set2
          clear hq hp hz set1 set2
          go_wp2_with fail
          refine (H1.out _).mono ?_
          rintro e w' ⟨rfl, rfl⟩
          rw [HQ.out]
          go_wp2_with fail
          refine (H2.out _).mono ?_
          rintro e w' ⟨rfl, rfl⟩
          rw [HP.out]
          go_wp2_with fail
          go_roundw
          case rel => exact ⟨1, by decide, by decide, rfl, HZ, HB.out⟩
          case measure => decide
    · have set1 := fun w' => setAt 1 1 rfl (by decide) want w'
      have set2 := fun w' => setAt 1 1 rfl (by decide) b w'
      cases hq : bitB want 1
      · have HQ := Lib.hid hq
        have HZ : Hid (((0 : Int) < 2 → (!bitB want 2 || bitB b 2) = true) ∧ ((0 : Int) < 1 → (!bitB want 1 || bitB b 1) = true) ∧ ((0 : Int) < 0 → (!bitB want 0 || bitB b 0) = true)) := Lib.hid (by have := hz.out; simp_all)
        have H1 := Lib.hid set1
        clear hq hz set1 set2
        go_wp2_with (go_at_call 71; refine (H1.out _).mono ?_; rintro e w' ⟨rfl, rfl⟩; rw [HQ.out])
        go_roundw
        case rel => exact ⟨0, by decide, by decide, rfl, HZ, HB.out⟩
        case measure => decide
      · cases hp : bitB b 1
        · have HF := Lib.hid (show mayB b want = false by unfold mayB; rw [hq, hp]; simp)
          have HQ := Lib.hid hq
          have HP := Lib.hid hp
          have H1 := Lib.hid set1
          have H2 := Lib.hid set2
          clear hq hp hz set1 set2
          go_wp2_with fail
          refine (H1.out _).mono ?_
          rintro e w' ⟨rfl, rfl⟩
          rw [HQ.out]
          go_wp2_with fail
          refine (H2.out _).mono ?_
          rintro e w' ⟨rfl, rfl⟩
          rw [HP.out]
          go_wp2_with fail
          go_ret
          exact ⟨pret_bool HF.out.symm, HB.out⟩
        · have HQ := Lib.hid hq
          have HP := Lib.hid hp
          have HZ : Hid (((0 : Int) < 2 → (!bitB want 2 || bitB b 2) = true) ∧ ((0 : Int) < 1 → (!bitB want 1 || bitB b 1) = true) ∧ ((0 : Int) < 0 → (!bitB want 0 || bitB b 0) = true)) := Lib.hid (by have := hz.out; simp_all)
          have H1 := Lib.hid set1
          have H2 := Lib.hid set2
          clear hq hp hz set1 set2
          go_wp2_with fail
          refine (H1.out _).mono ?_
          rintro e w' ⟨rfl, rfl⟩
          rw [HQ.out]
          go_wp2_with fail
          refine (H2.out _).mono ?_
          rintro e w' ⟨rfl, rfl⟩
          rw [HP.out]
          go_wp2_with fail
          go_roundw
          case rel => exact ⟨0, by decide, by decide, rfl, HZ, HB.out⟩
          case measure => decide
    · have set1 := fun w' => setAt 0 0 rfl (by decide) want w'
      have set2 := fun w' => setAt 0 0 rfl (by decide) b w'
      cases hq : bitB want 0
      · have HQ := Lib.hid hq
        have HZ : Hid (((-1 : Int) < 2 → (!bitB want 2 || bitB b 2) = true) ∧ ((-1 : Int) < 1 → (!bitB want 1 || bitB b 1) = true) ∧ ((-1 : Int) < 0 → (!bitB want 0 || bitB b 0) = true)) := Lib.hid (by have := hz.out; simp_all)
        have H1 := Lib.hid set1
        clear hq hz set1 set2
        go_wp2_with (go_at_call 71; refine (H1.out _).mono ?_; rintro e w' ⟨rfl, rfl⟩; rw [HQ.out])
        go_roundw
        case rel => exact ⟨-1, by decide, by decide, rfl, HZ, HB.out⟩
        case measure => decide
      · cases hp : bitB b 0
        · have HF := Lib.hid (show mayB b want = false by unfold mayB; rw [hq, hp]; simp)
          have HQ := Lib.hid hq
          have HP := Lib.hid hp
          have H1 := Lib.hid set1
          have H2 := Lib.hid set2
          clear hq hp hz set1 set2
          go_wp2_with fail
          refine (H1.out _).mono ?_
          rintro e w' ⟨rfl, rfl⟩
          rw [HQ.out]
          go_wp2_with fail
          refine (H2.out _).mono ?_
          rintro e w' ⟨rfl, rfl⟩
          rw [HP.out]
          go_wp2_with fail
          go_ret
          exact ⟨pret_bool HF.out.symm, HB.out⟩
        · have HQ := Lib.hid hq
          have HP := Lib.hid hp
          have HZ : Hid (((-1 : Int) < 2 → (!bitB want 2 || bitB b 2) = true) ∧ ((-1 : Int) < 1 → (!bitB want 1 || bitB b 1) = true) ∧ ((-1 : Int) < 0 → (!bitB want 0 || bitB b 0) = true)) := Lib.hid (by have := hz.out; simp_all)
          have H1 := Lib.hid set1
          have H2 := Lib.hid set2
          clear hq hp hz set1 set2
          go_wp2_with fail
          refine (H1.out _).mono ?_
          rintro e w' ⟨rfl, rfl⟩
          rw [HQ.out]
          go_wp2_with fail
          refine (H2.out _).mono ?_
          rintro e w' ⟨rfl, rfl⟩
          rw [HP.out]
          go_wp2_with fail
          go_roundw
          case rel => exact ⟨-1, by decide, by decide, rfl, HZ, HB.out⟩
          case measure => decide
    · have HA := Lib.hid (show mayB b want = true by obtain ⟨x, y, z⟩ := hz.out; unfold mayB; rw [x (by decide), y (by decide), z (by decide)]; rfl)
      clear hz
      go_wp2
      go_ret
      exact ⟨pret_bool HA.out.symm, HB.out⟩
end Go.Proofs.YtpikndeefiediaaGreatDoor.P

namespace Go.Proofs.YtpikndeefiediaaGreatDoor.G
open Go.ChangeShapes Go.WideShapes Go.ChangeAt Go.RowKit Go.Deep

theorem own : ownKnob Tryz.prog.godebug = none := V.own
theorem laidOut : laidOutB Tryz.prog = true := V.laidOut
def htxt (l : List UInt8) : ByteArray := ⟨l.toArray⟩
theorem gCls : Tryz.prog.globalNamed "domesday/perm.classes" = some 0 := by kernel_rfl
theorem gClsType : (Tryz.prog.globals[0]?).map (·.type) = some 151 := by kernel_rfl
theorem cellsCls : Tryz.prog.cellsOf 150 = 4 := by kernel_rfl
set_option maxRecDepth 100000 in
/-- A class that reads as two numbers and two texts holds them, cell by cell. -/
theorem cls_of {H : Type} {enc : TypeId × Value → H} {w : World} {base : Nat} {sp : Nat → Bool} {held : Bool} {fuel : Nat} {cs : List Value} {f s : Int} {x X : List UInt8} {y : DataW H × List MemPlace}
    (h : DataW.trod enc Tryz.prog w base sp held fuel 150 cs = some y) (hy : y.1 = .agg [.lit (.int .i64 f), .lit (.int .i64 s), .lit (.string x), .lit (.string X)]) :
    cs[0]? = some (.int .i64 f) ∧ cs[1]? = some (.int .i64 s) ∧ cs[2]? = some (.string (htxt x)) ∧ cs[3]? = some (.string (htxt X)) := by
  obtain ⟨ys, n, _, rfl, hl, hyl, hf⟩ := DataW.trod_struct Tryz.underlying150 h
  rw [cellsCls] at hl
  have f0 := hf 0 _ rfl
  have f1 := hf 1 _ rfl
  have f2 := hf 2 _ rfl
  have f3 := hf 3 _ rfl
  clear hf
  match cs, hl, ys, hyl with
  | [c0, c1, c2, c3], _, [y0, y1, y2, y3], _ =>
    simp [V.cellsInt, V.cellsStr] at f0 f1 f2 f3
    obtain ⟨n0, e0, k0, _⟩ := DataW.trod_int Tryz.underlying3 f0
    obtain ⟨n1, e1, k1, _⟩ := DataW.trod_int Tryz.underlying3 f1
    obtain ⟨s2, e2, k2, _⟩ := DataW.trod_string Tryz.underlying9 f2
    obtain ⟨s3, e3, k3, _⟩ := DataW.trod_string Tryz.underlying9 f3
    simp at e0 e1 e2 e3
    simp [k0, k1, k2, k3] at hy
    obtain ⟨h0, h1, h2, h3⟩ := hy
    refine ⟨by rw [e0, h0]; rfl, by rw [e1, h1]; rfl, ?_, ?_⟩
    · rw [e2, ← h2]; cases s2; simp [htxt]
    · rw [e3, ← h3]; cases s3; simp [htxt]

set_option maxRecDepth 100000 in
theorem tab_of {W : World} {x : String × DataW Unit} {l : List (String × DataW Unit)} (h : laidMet Tryz.prog (x :: ("domesday/perm.classes", Rows.laid_domesday_perm_classes) :: l) W) : P.Tab W := by
  obtain ⟨ps, ⟨_, _, _, _, _, _, _, _, _, _, ⟨g', t', cs, fuel, p, q, hg', ht', hvar, hd, _, _⟩, _⟩, _⟩ := h
  obtain rfl := Option.some.inj (gCls.symm.trans hg')
  obtain rfl := Option.some.inj (gClsType.symm.trans ht')
  obtain ⟨xs, m, _, hx, hlen, hxl, ha⟩ := DataW.trod_array Tryz.underlying151 hd
  have a0 := ha 0 (by decide)
  have a1 := ha 1 (by decide)
  have a2 := ha 2 (by decide)
  clear ha
  have hx1 := congrArg Prod.fst hx
  unfold Rows.laid_domesday_perm_classes at hx1
  match xs, hxl with
  | [z0, z1, z2], _ =>
    simp only [List.map_cons, List.map_nil, DataW.agg.injEq, List.cons.injEq, and_true] at hx1
    obtain ⟨k0, k1, k2⟩ := hx1
    rw [cellsCls] at a0 a1 a2
    have c0 := cls_of a0 k0.symm
    have c1 := cls_of a1 k1.symm
    have c2 := cls_of a2 k2.symm
    refine ⟨fun j v hj => ?_⟩
    rw [World.var?_cell gCls hvar (0 + j)]
    simp at c0 c1 c2
    have hl : j < 12 := (List.getElem?_eq_some_iff.1 hj).1
    match j, hl, hj with
    | 0, _, hj => cases Option.some.inj hj; exact c0.1
    | 1, _, hj => cases Option.some.inj hj; exact c0.2.1
    | 2, _, hj => cases Option.some.inj hj; exact c0.2.2.1
    | 3, _, hj => cases Option.some.inj hj; exact c0.2.2.2
    | 4, _, hj => cases Option.some.inj hj; exact c1.1
    | 5, _, hj => cases Option.some.inj hj; exact c1.2.1
    | 6, _, hj => cases Option.some.inj hj; exact c1.2.2.1
    | 7, _, hj => cases Option.some.inj hj; exact c1.2.2.2
    | 8, _, hj => cases Option.some.inj hj; exact c2.1
    | 9, _, hj => cases Option.some.inj hj; exact c2.2.1
    | 10, _, hj => cases Option.some.inj hj; exact c2.2.2.1
    | 11, _, hj => cases Option.some.inj hj; exact c2.2.2.2
end Go.Proofs.YtpikndeefiediaaGreatDoor.G
