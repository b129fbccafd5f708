/-
  Where a path leads: the walk over the model's nodes, names ahead of names. Conditions: none.
  What two points behind a path, more slashes, and points between come to in the model's walk. Conditions: each fact's own.
-/
import Derived.Test.YtpikndeefiediaaGreatDoorKVAsk
import Derived.Test.YtpikndeefiediaaGreatDoorKHNames
import Derived.Test.YtpikndeefiediaaGreatDoorKGTab
import Derived.Test.YtpikndeefiediaaGreatDoorKUKeyM
set_option linter.unusedVariables false
namespace Go.Proofs.YtpikndeefiediaaGreatDoor.V
open Go.Proofs.YtpikndeefiediaaGreatDoor.P
open Go.RowKit

/-- A node as perm's texts have it. -/
def nvOf (n : Nd) : Nv := ⟨n.dev, n.ino, n.kind, n.mode, n.uid, n.gid, n.size, n.blocks, n.links, n.t0, n.t1, n.t2, n.target⟩
def zeroNv : Nv := ⟨0, 0, 0, 0, 0, 0, 0, 0, 0, 0, 0, 0, ⟨#[]⟩⟩
def nvAt (M : List Nd) (i : Int) : Nv := match atM M i with
  | none => zeroNv
  | some n => nvOf n
theorem nodeV_nv (M : List Nd) (i : Int) : nodeV' M i = nodeV (nvAt M i) := by
  unfold nodeV' nvAt
  cases atM M i <;> rfl
def kindM (M : List Nd) (i : Int) : Int := (nvAt M i).kind
/-- A place: the node, and by which name's entry it was come to. -/
structure Pl where
  id : Int
  dir : Int
  name : ByteArray
theorem known_nv (n : Nv) : nodeV n = .agg #[.int .i64 n.dev, .int .i64 n.ino, .int .i64 n.kind, .int .i64 n.mode, .int .i64 n.uid, .int .i64 n.gid, .int .i64 n.size, .int .i64 n.blocks, .int .i64 n.links, .int .i64 n.ta, .int .i64 n.tb, .int .i64 n.tc, .string n.target] := rfl
end Go.Proofs.YtpikndeefiediaaGreatDoor.V

namespace Go.Proofs.YtpikndeefiediaaGreatDoor.V
open Go.Proofs.YtpikndeefiediaaGreatDoor.P
open Go.RowKit

def mkB (l : List UInt8) : ByteArray := ⟨l.toArray⟩
def seg (l : List UInt8) (a b : Nat) : List UInt8 := (l.drop a).take (b - a)
theorem ext_seg (s : ByteArray) (a b : Nat) (hab : a ≤ b) (hb : b ≤ s.size) : s.extract a b = mkB (seg s.data.toList a b) := by
  apply ByteArray.ext
  rw [ByteArray.data_extract]
  unfold mkB seg
  apply Array.toList_inj.1
  rw [Array.toList_extract, List.extract_eq_take_drop]
def kc (C : List (Int × Int × Int)) (j : Int) : Int := if 0 ≤ j ∧ j < (C.length : Int) then ((C[j.toNat]?).map (·.1)).getD 0 else 0
def dd : ByteArray := ⟨#[46, 46]⟩
def dot1 : ByteArray := ⟨#[46]⟩
/-- Points put in; behind the last name only where a slash ends. -/
inductive Ins (sl : Bool) : List ByteArray → List ByteArray → Prop
  | nil : Ins sl [] []
  | last {r : List ByteArray} (h : sl = true) (k : Ins sl [] r) : Ins sl [] (dot1 :: r)
  | dot {x : ByteArray} {l r : List ByteArray} (k : Ins sl (x :: l) r) : Ins sl (x :: l) (dot1 :: r)
  | cons {x : ByteArray} {l r : List ByteArray} (k : Ins sl l r) : Ins sl (x :: l) (x :: r)
theorem Ins.refl {sl : Bool} : ∀ l, Ins sl l l
  | [] => .nil
  | x :: l => .cons (Ins.refl l)
theorem Ins.more {sl sl' : Bool} (hs : sl = true → sl' = true) {a b : List ByteArray} (h : Ins sl a b) : Ins sl' a b := by
  induction h with
  | nil => exact .nil
  | last h k ih => exact .last (hs h) ih
  | dot k ih => exact .dot ih
  | cons k ih => exact .cons ih
theorem size_list (s : ByteArray) : s.data.toList.length = s.size := by simp
end Go.Proofs.YtpikndeefiediaaGreatDoor.V
