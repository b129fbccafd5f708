/-
  What slices.Equal of two rows of entries, alike, slices.EqualFunc and FS.Same return. Conditions: the file systems lie in memory; at most 1000000 nodes, and entries a directory.
-/
import Derived.Test.YtcjbnjoomgagjaaGreatDoorKVAsk
set_option linter.unusedVariables false
namespace Go.Proofs.YtcjbnjoomgagjaaGreatDoor.V
open Go.RowKit

def entEq (a b : ByteArray × Int) : Bool := a.1.toList == b.1.toList && a.2 == b.2
def entsEq : List (ByteArray × Int) → List (ByteArray × Int) → Bool
  | [], [] => true
  | x :: r, y :: t => entEq x y && entsEq r t
  | _, _ => false
theorem entsEq_len : ∀ {a b : List (ByteArray × Int)}, entsEq a b = true → a.length = b.length
  | [], [], _ => rfl
  | x :: r, y :: t, h => by
    rw [entsEq, Bool.and_eq_true] at h
    rw [List.length_cons, List.length_cons, entsEq_len h.2]
  | [], y :: t, h => by simp [entsEq] at h
  | x :: r, [], h => by simp [entsEq] at h
theorem entsEq_self : ∀ a : List (ByteArray × Int), entsEq a a = true
  | [] => rfl
  | x :: r => by rw [entsEq, entsEq_self r]; simp [entEq]
theorem entsEq_no : ∀ {a b : List (ByteArray × Int)} {k : Nat} {x y : ByteArray × Int}, a[k]? = some x → b[k]? = some y → entEq x y = false → entsEq a b = false
  | x :: r, y :: t, 0, _, _, h, h', e => by
    simp at h h'
    subst h h'
    rw [entsEq, e]
    rfl
  | x :: r, y :: t, k + 1, _, _, h, h', e => by
    rw [entsEq, entsEq_no (a := r) (b := t) (k := k) (by simpa using h) (by simpa using h') e]
    simp
  | [], _, k, _, _, h, _, _ => by simp at h
  | x :: r, [], k, _, _, _, h, _ => by simp at h
theorem entsEq_all : ∀ {a b : List (ByteArray × Int)}, a.length = b.length → (∀ (k : Nat) (x y : ByteArray × Int), a[k]? = some x → b[k]? = some y → entEq x y = true) → entsEq a b = true
  | [], [], _, _ => rfl
  | x :: r, y :: t, h, e => by
    rw [entsEq, e 0 x y rfl rfl, entsEq_all (by simpa using h) (fun k u v hu hv => e (k + 1) u v (by simpa using hu) (by simpa using hv))]
    rfl
  | [], y :: t, h, _ => by simp at h
  | x :: r, [], h, _ => by simp at h

set_option maxRecDepth 100000 in
theorem run_neq_ent (W : World) (s t : ByteArray) (i j : Int) : (binOp .neq 81 (.agg #[.string s, .int .i64 i]) (.agg #[.string t, .int .i64 j])).run Tryz.prog W = .ok (.bool (!(entEq (s, i) (t, j)))) W := by
  simp [go_sem, entEq]
  by_cases h1 : s.toList = t.toList <;> by_cases h2 : i = j <;> simp [h1, h2]
theorem drewN_two (w : World) (a b : Nat) : (w.drewN a).drewN b = w.drewN (a + b) := by
  unfold World.drewN
  simp [Nat.add_assoc]
def EqRel (a b : List (ByteArray × Int)) (w : World) (v : Value) (wr : World) : Prop := ∃ k : Nat, k ≤ a.length ∧ v = .int .i64 (k : Int) ∧ Hid (∃ q, wr = w.drewN q) ∧ Hid (∀ j x y, j < k → a[j]? = some x → b[j]? = some y → entEq x y = true)

/-- Is all known of two nodes the same? -/
def knownB (n m : Nd) : Bool := n.dev == m.dev && (n.ino == m.ino && (n.kind == m.kind && (n.mode == m.mode && (n.uid == m.uid && (n.gid == m.gid && (n.size == m.size && (n.blocks == m.blocks && (n.links == m.links && (n.t0 == m.t0 && (n.t1 == m.t1 && (n.t2 == m.t2 && n.target.toList == m.target.toList)))))))))))
def alikeB (n m : Nd) : Bool := knownB n m && (n.dead == m.dead && (n.up == m.up && (n.over == m.over && entsEq n.ents m.ents)))
set_option maxRecDepth 100000 in
theorem run_equalIn_arr3 (d : Nat) (W : World) (a b c x y z : Int) : (Op.equalIn (d + 2) 53 (.agg #[.int .i64 a, .int .i64 b, .int .i64 c]) (.agg #[.int .i64 x, .int .i64 y, .int .i64 z])).run Tryz.prog W = .ok (a == x && (b == y && c == z)) W := by
  have hi : ∀ (W : World) (a b : Int), (Op.equalIn (d + 1) 2 (.int .i64 a) (.int .i64 b)).run Tryz.prog W = .ok (a == b) W := fun W a b => run_equalIn_int W d 2 .i64 .i64 a b Tryz.underlying2
  have ha : ∀ W, (isAgg 2).run Tryz.prog W = .ok false W := fun W => by kernel_rfl
  rw [show d + 2 = (d + 1) + 1 from rfl, Op.equalIn]
  simp only [Sem.run_bind, run_underlying Tryz.underlying53, Result.andThen_ok]
  simp [go_sem]
  rw [show List.range' 0 3 = [0, 1, 2] from rfl]
  by_cases h1 : a = x <;> by_cases h2 : b = y <;> by_cases h3 : c = z <;> simp [ha, hi, h1, h2, h3]
set_option maxRecDepth 100000 in
set_option maxHeartbeats 4000000 in
theorem run_eql_known (W : World) (n m : Nd) : (binOp .eql 55 (knownV n) (knownV m)).run Tryz.prog W = .ok (.bool (knownB n m)) W := by
  have h3 := fun W a b c x y z => run_equalIn_arr3 9997 W a b c x y z
  unfold knownV Nd.known knownB
  simp [go_sem, h3]
  repeat' split
  all_goals simp_all

theorem cells_at (n : Nd) (ev : Value) : (n.cells ev)[13]? = some (.bool n.dead) ∧ (n.cells ev)[14]? = some (.int .i64 n.up) ∧ (n.cells ev)[15]? = some (.int .i64 n.over) ∧ (n.cells ev)[16]? = some ev := ⟨rfl, rfl, rfl, rfl⟩
end Go.Proofs.YtcjbnjoomgagjaaGreatDoor.V
