/-
  What slices.Equal of two rows of entries, alike, slices.EqualFunc and FS.Same return. Conditions: the file systems lie in memory; at most 1000000 nodes, and entries a directory.
-/
import Derived.Test.YtcjbnjoomgagjaaGreatDoorKVAsk
set_option linter.unusedVariables false
namespace Go.Proofs.YtcjbnjoomgagjaaGreatDoor.V
open Go.RowKit
def entEq (a b : ByteArray × Int) : Bool := a.1.toList == b.1.toList && a.2 == b.2
def entsEq : List (ByteArray × Int) → List (ByteArray × Int) → Bool
  | [], [] => true
  | x :: r, y :: t => entEq x y && entsEq r t
  | _, _ => false
theorem entsEq_len : ∀ {a b : List (ByteArray × Int)}, entsEq a b = true → a.length = b.length
  | [], [], _ => rfl
  | x :: r, y :: t, h => by
    rw [entsEq, Bool.and_eq_true] at h
    rw [List.length_cons, List.length_cons, entsEq_len h.2]
  | [], y :: t, h => by simp [entsEq] at h
  | x :: r, [], h => by simp [entsEq] at h
theorem entsEq_self : ∀ a : List (ByteArray × Int), entsEq a a = true
  | [] => rfl
  | x :: r => by rw [entsEq, entsEq_self r]; simp [entEq]
theorem entsEq_no : ∀ {a b : List (ByteArray × Int)} {k : Nat} {x y : ByteArray × Int}, a[k]? = some x → b[k]? = some y → entEq x y = false → entsEq a b = false
  | x :: r, y :: t, 0, _, _, h, h', e => by
    simp at h h'
    subst h h'
    rw [entsEq, e]
    rfl
  | x :: r, y :: t, k + 1, _, _, h, h', e => by
    rw [entsEq, entsEq_no (a := r) (b := t) (k := k) (by simpa using h) (by simpa using h') e]
    simp
  | [], _, k, _, _, h, _, _ => by simp at h
  | x :: r, [], k, _, _, _, h, _ => by simp at h
theorem entsEq_all : ∀ {a b : List (ByteArray × Int)}, a.length = b.length → (∀ (k : Nat) (x y : ByteArray × Int), a[k]? = some x → b[k]? = some y → entEq x y = true) → entsEq a b = true
  | [], [], _, _ => rfl
  | x :: r, y :: t, h, e => by
    rw [entsEq, e 0 x y rfl rfl, entsEq_all (by simpa using h) (fun k u v hu hv => e (k + 1) u v (by simpa using hu) (by simpa using hv))]
    rfl
  | [], y :: t, h, _ => by simp at h
  | x :: r, [], h, _ => by simp at h
set_option maxRecDepth 100000 in
theorem run_neq_ent (W : World) (s t : ByteArray) (i j : Int) : (binOp .neq 81 (.agg #[.string s, .int .i64 i]) (.agg #[.string t, .int .i64 j])).run Tryz.prog W = .ok (.bool (!(entEq (s, i) (t, j)))) W := by
  simp [go_sem, entEq]
  by_cases h1 : s.toList = t.toList <;> by_cases h2 : i = j <;> simp [h1, h2]
theorem drewN_two (w : World) (a b : Nat) : (w.drewN a).drewN b = w.drewN (a + b) := by
  unfold World.drewN
  simp [Nat.add_assoc]
def EqRel (a b : List (ByteArray × Int)) (w : World) (v : Value) (wr : World) : Prop := ∃ k : Nat, k ≤ a.length ∧ v = .int .i64 (k : Int) ∧ Hid (∃ q, wr = w.drewN q) ∧ Hid (∀ j x y, j < k → a[j]? = some x → b[j]? = some y → entEq x y = true)
end Go.Proofs.YtcjbnjoomgagjaaGreatDoor.V
