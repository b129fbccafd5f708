/-
  What the program's small readers of a file system return. Conditions: the file system lies in memory.
  What makes a node of the program's returns: a directory's, a file's, a link's. Conditions: a file's size is a number from 0 on.
-/
import Derived.Test.YtknfhphhcnbndaaGreatDoorRows
import Derived.WalkKit
import Derived.WalkSpells
import Derived.WalkLawsBesides
import Derived.Lib.Hide
import Derived.Lib.OthersKept
import Derived.Laws.AppendOwn
import Derived.Laws.Bits128
set_option linter.unusedVariables false
set_option linter.unusedSimpArgs false
namespace Go.Proofs.YtknfhphhcnbndaaGreatDoor.V
open Go.RowKit

theorem ret_int {k : IntKind} {a b : Int} (h : a = b) : Ending.returned (.int k a) = .returned (.int k b) := by rw [h]
theorem ret_bool {a b : Bool} (h : a = b) : Ending.returned (.bool a) = .returned (.bool b) := by rw [h]
theorem below_two {w a b : World} (h : Below w.heap.size w a) (k : Below a.heap.size a b) : Below w.heap.size w b := h.trans (k.mono h.size)

structure Nd where
  dev : Int
  ino : Int
  kind : Int
  mode : Int
  uid : Int
  gid : Int
  size : Int
  blocks : Int
  links : Int
  t0 : Int
  t1 : Int
  t2 : Int
  target : ByteArray
  dead : Bool
  up : Int
  over : Int
  ents : List (ByteArray × Int)

/-- What is known of a node, cell by cell. -/
def Nd.known (n : Nd) : List Value := [.int .i64 n.dev, .int .i64 n.ino, .int .i64 n.kind, .int .i64 n.mode, .int .i64 n.uid, .int .i64 n.gid, .int .i64 n.size, .int .i64 n.blocks, .int .i64 n.links, .int .i64 n.t0, .int .i64 n.t1, .int .i64 n.t2, .string n.target]
/-- A node's cells; ev: the slice of its entries. -/
def Nd.cells (n : Nd) (ev : Value) : List Value := [.int .i64 n.dev, .int .i64 n.ino, .int .i64 n.kind, .int .i64 n.mode, .int .i64 n.uid, .int .i64 n.gid, .int .i64 n.size, .int .i64 n.blocks, .int .i64 n.links, .int .i64 n.t0, .int .i64 n.t1, .int .i64 n.t2, .string n.target, .bool n.dead, .int .i64 n.up, .int .i64 n.over, ev]
def nc (x : Nd × Value) : List Value := x.1.cells x.2
theorem nc_len (x : Nd × Value) : (nc x).length = 17 := rfl
def flat : List (Nd × Value) → List Value
  | [] => []
  | x :: r => nc x ++ flat r
def entCells : List (ByteArray × Int) → List Value
  | [] => []
  | x :: r => .string x.1 :: .int .i64 x.2 :: entCells r

theorem flat_len : ∀ X, (flat X).length = X.length * 17
  | [] => rfl
  | x :: r => by rw [flat, List.length_append, nc_len, flat_len r, List.length_cons]; omega
theorem flat_append : ∀ X Y, flat (X ++ Y) = flat X ++ flat Y
  | [], Y => rfl
  | x :: r, Y => by rw [List.cons_append, flat, flat, flat_append r Y, List.append_assoc]
theorem flat_one (x : Nd × Value) : flat [x] = nc x := by rw [flat, flat, List.append_nil]
theorem flat_get : ∀ (X : List (Nd × Value)) (i k : Nat) (x : Nd × Value), X[i]? = some x → k < 17 → (flat X)[i * 17 + k]? = (nc x)[k]?
  | [], i, k, x, h, _ => by simp at h
  | y :: r, 0, k, x, h, hk => by
    simp at h
    subst h
    rw [flat, Nat.zero_mul, Nat.zero_add, List.getElem?_append_left (by rw [nc_len]; exact hk)]
  | y :: r, i + 1, k, x, h, hk => by
    have h' : r[i]? = some x := by simpa using h
    rw [flat, List.getElem?_append_right (by rw [nc_len]; omega), nc_len, show (i + 1) * 17 + k - 17 = i * 17 + k by omega]
    exact flat_get r i k x h' hk
theorem flat_set : ∀ (X : List (Nd × Value)) (i k : Nat) (x x' : Nd × Value) (u : Value), X[i]? = some x → k < 17 → nc x' = (nc x).set k u → (flat X).set (i * 17 + k) u = flat (X.set i x')
  | [], i, k, x, x', u, h, _, _ => by simp at h
  | y :: r, 0, k, x, x', u, h, hk, hs => by
    simp at h
    subst h
    rw [flat, Nat.zero_mul, Nat.zero_add, List.set_append_left _ _ (by rw [nc_len]; exact hk), ← hs]
    rfl
  | y :: r, i + 1, k, x, x', u, h, hk, hs => by
    have h' : r[i]? = some x := by simpa using h
    rw [flat, List.set_append_right _ _ (by rw [nc_len]; omega), nc_len, show (i + 1) * 17 + k - 17 = i * 17 + k by omega, flat_set r i k x x' u h' hk hs]
    rfl
theorem entCells_append : ∀ l m, entCells (l ++ m) = entCells l ++ entCells m
  | [], m => rfl
  | x :: r, m => by rw [List.cons_append, entCells, entCells, entCells_append r m]; rfl
theorem entCells_get : ∀ (l : List (ByteArray × Int)) (i : Nat) (x : ByteArray × Int), l[i]? = some x → (entCells l)[i * 2]? = some (.string x.1) ∧ (entCells l)[i * 2 + 1]? = some (.int .i64 x.2)
  | [], i, x, h => by simp at h
  | y :: r, 0, x, h => by simp at h; subst h; exact ⟨rfl, rfl⟩
  | y :: r, i + 1, x, h => by
    have h' : r[i]? = some x := by simpa using h
    have := entCells_get r i x h'
    rw [entCells, show (i + 1) * 2 = i * 2 + 1 + 1 by omega]
    exact this

/-- A store into an own row. -/
theorem owns_setCell {w : World} {base : Nat} {e : TypeId} {size g n cap : Nat} {xs : List Value} (h : w.ownsRow base e size (.slice (some ⟨g, 0, none⟩) n cap) n xs) {j : Nat} (hj : j < xs.length) (u : Value) :
    (w.setCell ⟨g, j, none⟩ u).ownsRow base e size (.slice (some ⟨g, 0, none⟩) n cap) n (xs.set j u) := by
  obtain ⟨hl, h⟩ := h
  refine ⟨by rw [List.length_set]; exact hl, ?_⟩
  rcases h with ⟨h, _⟩ | ⟨g', cap', cur, hv, hb, hg, hnc, hcm, hcs, ht⟩
  · cases h
  · simp only [Value.slice.injEq, Option.some.injEq, Addr.mk.injEq] at hv
    obtain ⟨⟨rfl, _, _⟩, _, rfl⟩ := hv
    refine .inr ⟨g, cap, cur.setIfInBounds j u, rfl, hb, heap_setCell_same w g j cur e u hg, hnc, hcm, by rw [Array.size_setIfInBounds]; exact hcs, ?_⟩
    rw [Array.toList_setIfInBounds, List.take_set, ht]
theorem owns_frozen {w : World} {base : Nat} {e : TypeId} {size g n cap : Nat} {xs : List Value} (h : w.ownsRow base e size (.slice (some ⟨g, 0, none⟩) n cap) n xs) (j : Nat) : w.frozen? ⟨g, j, none⟩ = false := by
  rcases h.2 with ⟨h, _⟩ | ⟨g', cap', cur, hv, hb, hg, _⟩
  · cases h
  · simp only [Value.slice.injEq, Option.some.injEq, Addr.mk.injEq] at hv
    obtain ⟨⟨rfl, _, _⟩, _, _⟩ := hv
    exact frozen_of_row w g j cur e hg
theorem owns_cell {w : World} {base : Nat} {e : TypeId} {size g n cap : Nat} {xs : List Value} (h : w.ownsRow base e size (.slice (some ⟨g, 0, none⟩) n cap) n xs) {j : Nat} {u : Value} (hu : xs[j]? = some u) : w.cell? ⟨g, j, none⟩ = some u := by
  have := h.cells (g := g) rfl j u hu
  have hadd : (⟨g, 0, none⟩ : Addr).add j = ⟨g, j, none⟩ := by unfold Addr.add; split <;> simp_all
  rwa [hadd] at this
theorem owns_some {w : World} {base : Nat} {e : TypeId} {size n : Nat} {v : Value} {xs : List Value} (h : w.ownsRow base e size v n xs) (hn : 0 < n) : ∃ g cap, v = .slice (some ⟨g, 0, none⟩) n cap ∧ n ≤ cap ∧ cap ≤ maxLen := by
  rcases h.2 with ⟨_, h⟩ | ⟨g, cap, cur, hv, hb, hg, hnc, hcm, _⟩
  · omega
  · exact ⟨g, cap, hv, hnc, hcm⟩
theorem owns_at {w w' : World} {base : Nat} {e : TypeId} {size n : Nat} {v : Value} {xs : List Value} (h : w.ownsRow base e size v n xs) (hk : ∀ k, v.ownBlock = some k → w'.heap[k]? = w.heap[k]?) : w'.ownsRow base e size v n xs := by
  refine ⟨h.1, ?_⟩
  rcases h.2 with hn | ⟨g, cap, cur, rfl, hb, hgg, rest⟩
  · exact .inl hn
  · exact .inr ⟨g, cap, cur, rfl, hb, (hk g rfl).trans hgg, rest⟩
theorem owns_type {w : World} {base : Nat} {e : TypeId} {size n : Nat} {v : Value} {xs : List Value} (h : w.ownsRow base e size v n xs) {k : Nat} (hk : v.ownBlock = some k) : ∃ cur, w.heap[k]? = some (.cells cur e (0, 0)) := by
  rcases h.2 with ⟨rfl, _⟩ | ⟨g, cap, cur, rfl, hb, hgg, rest⟩
  · cases hk
  · cases hk
    exact ⟨cur, hgg⟩

/-- A file system's handle: its block, its slice of nodes, its nodes with their slices of entries. -/
structure Fsh where
  p : Nat
  v : Value
  X : List (Nd × Value)
/-- The blocks that are its own. -/
def Fsh.foot (h : Fsh) (k : Nat) : Prop := k = h.p ∨ h.v.ownBlock = some k ∨ ∃ x ∈ h.X, x.2.ownBlock = some k
def Fsh.M (h : Fsh) : List Nd := h.X.map Prod.fst

structure Fs (h : Fsh) (w : World) : Prop where
  head : w.heap[h.p]? = some (.cells #[h.v] 137 (0, 0))
  own : w.ownsRow 0 135 17 h.v h.X.length (flat h.X)
  ents : ∀ x ∈ h.X, w.ownsRow 0 177 2 x.2 x.1.ents.length (entCells x.1.ents)
  apart : ∀ i j : Nat, i < j → ∀ x y, h.X[i]? = some x → h.X[j]? = some y → x.2.ownBlock = none ∨ x.2.ownBlock ≠ y.2.ownBlock

/-- All but a file system's own blocks is as it was; its own are those that it had, and new ones. -/
structure Grew (h h' : Fsh) (w w' : World) : Prop where
  os : w'.os = w.os
  tape : w'.tape = w.tape
  output : w'.output = w.output
  size : w.heap.size ≤ w'.heap.size
  kept : ∀ k, k < w.heap.size → ¬ h.foot k → w'.heap[k]? = w.heap[k]?
  new : ∀ k, h'.foot k → h.foot k ∨ w.heap.size ≤ k

theorem heap_lt {w : World} {k : Nat} {o : Obj} (h : w.heap[k]? = some o) : k < w.heap.size := by
  apply Classical.byContradiction
  intro hn
  rw [Array.getElem?_eq_none (by omega)] at h
  cases h

theorem Fs.lt {h : Fsh} {w : World} (H : Fs h w) {k : Nat} (hk : h.foot k) : k < w.heap.size := by
  rcases hk with rfl | hk | ⟨x, hx, hk⟩
  · exact heap_lt H.head
  · exact (H.own.lt k hk).2
  · exact ((H.ents x hx).lt k hk).2
theorem Fs.at {h : Fsh} {w w' : World} (H : Fs h w) (hk : ∀ k, h.foot k → w'.heap[k]? = w.heap[k]?) : Fs h w' :=
  ⟨(hk _ (.inl rfl)).trans H.head, owns_at H.own (fun k e => hk k (.inr (.inl e))), fun x hx => owns_at (H.ents x hx) (fun k e => hk k (.inr (.inr ⟨x, hx, e⟩))), H.apart⟩
theorem Fs.keep {h : Fsh} {w w' : World} (H : Fs h w) (hb : Below w.heap.size w w') : Fs h w' := H.at fun k hk => hb.block k (H.lt hk)
theorem Fs.other {f h h' : Fsh} {w w' : World} (H : Fs f w) (hg : Grew h h' w w') (hd : ∀ k, f.foot k → ¬ h.foot k) : Fs f w' := H.at fun k hk => hg.kept k (H.lt hk) (hd k hk)

theorem Grew.refl (h : Fsh) (w : World) : Grew h h w w := ⟨rfl, rfl, rfl, Nat.le_refl _, fun _ _ _ => rfl, fun _ hk => .inl hk⟩
theorem Grew.trans {a b c : Fsh} {w w' w'' : World} (h : Grew a b w w') (k : Grew b c w' w'') : Grew a c w w'' :=
  ⟨k.os.trans h.os, k.tape.trans h.tape, k.output.trans h.output, Nat.le_trans h.size k.size,
    fun i hi hn => (k.kept i (Nat.lt_of_lt_of_le hi h.size) (fun e => by rcases h.new i e with q | q; exact hn q; omega)).trans (h.kept i hi hn),
    fun i hi => by rcases k.new i hi with q | q; exact h.new i q; exact .inr (Nat.le_trans h.size q)⟩
theorem Grew.of_below {h : Fsh} {w w' : World} (hb : Below w.heap.size w w') : Grew h h w w' := ⟨hb.os, hb.tape, hb.output, hb.size, fun k hk _ => hb.block k hk, fun _ hk => .inl hk⟩
theorem Grew.below {h h' : Fsh} {w w' : World} (hg : Grew h h' w w') {B : Nat} (hB : B ≤ w.heap.size) (hf : ∀ k, h.foot k → B ≤ k) : Below B w w' :=
  ⟨hg.os, hg.tape, hg.output, hg.size, fun k hk => hg.kept k (by omega) (fun e => by have := hf k e; omega)⟩

/-- The slice of nodes, where there is one. -/
theorem Fs.slice {h : Fsh} {w : World} (H : Fs h w) (hn : 0 < h.X.length) : ∃ g cap, h.v = .slice (some ⟨g, 0, none⟩) h.X.length cap ∧ h.X.length ≤ cap ∧ cap ≤ maxLen := owns_some H.own hn
theorem Fs.cell0 {h : Fsh} {w : World} (H : Fs h w) : w.cell? ⟨h.p, 0, none⟩ = some h.v := by rw [cell_of_row w _ _ _ _ _ H.head]; rfl
theorem Fs.frozen0 {h : Fsh} {w : World} (H : Fs h w) : w.frozen? ⟨h.p, 0, none⟩ = false := frozen_of_row w _ _ _ _ H.head
theorem Fs.at_node {h : Fsh} {w : World} (H : Fs h w) {g cap : Nat} (hv : h.v = .slice (some ⟨g, 0, none⟩) h.X.length cap) {i : Nat} {x : Nd × Value} (hx : h.X[i]? = some x) {k : Nat} (hk : k < 17) {u : Value} (hu : (nc x)[k]? = some u) : w.cell? ⟨g, i * 17 + k, none⟩ = some u := by
  have := H.own
  rw [hv] at this
  exact owns_cell this ((flat_get _ i k x hx hk).trans hu)
theorem Fs.frozen_node {h : Fsh} {w : World} (H : Fs h w) {g cap : Nat} (hv : h.v = .slice (some ⟨g, 0, none⟩) h.X.length cap) (j : Nat) : w.frozen? ⟨g, j, none⟩ = false := by
  have := H.own
  rw [hv] at this
  exact owns_frozen this j

theorem owns_one {w : World} {base : Nat} {e : TypeId} {size n : Nat} {v : Value} {xs : List Value} (h : w.ownsRow base e size v n xs) : v.oneCell' = true := by
  rcases h.2 with ⟨rfl, _⟩ | ⟨g, cap, cur, rfl, _⟩ <;> rfl
theorem Fs.ev_one {h : Fsh} {w : World} (H : Fs h w) {i : Nat} {x : Nd × Value} (hx : h.X[i]? = some x) : x.2.oneCell' = true := owns_one (H.ents x (List.mem_of_getElem? hx))

/-- The blocks of one file system are all different. -/
theorem Fs.p_ne {h : Fsh} {w : World} (H : Fs h w) {k : Nat} (hk : h.v.ownBlock = some k) : k ≠ h.p := by
  rintro rfl
  obtain ⟨cur, hc⟩ := owns_type H.own hk
  rw [H.head] at hc
  simp at hc
theorem Fs.p_ne_ent {h : Fsh} {w : World} (H : Fs h w) {x : Nd × Value} (hx : x ∈ h.X) {k : Nat} (hk : x.2.ownBlock = some k) : k ≠ h.p := by
  rintro rfl
  obtain ⟨cur, hc⟩ := owns_type (H.ents x hx) hk
  rw [H.head] at hc
  simp at hc
theorem Fs.v_ne_ent {h : Fsh} {w : World} (H : Fs h w) {x : Nd × Value} (hx : x ∈ h.X) {k g : Nat} (hk : x.2.ownBlock = some k) (hg : h.v.ownBlock = some g) : k ≠ g := by
  rintro rfl
  obtain ⟨cur, hc⟩ := owns_type (H.ents x hx) hk
  obtain ⟨cur', hc'⟩ := owns_type H.own hg
  rw [hc'] at hc
  simp at hc

theorem mem_set_iff {α : Type} {l : List α} {i : Nat} {y z : α} (h : z ∈ l.set i y) : z ∈ l ∨ z = y := by
  rw [List.mem_iff_getElem?] at h
  obtain ⟨j, hj⟩ := h
  rw [List.getElem?_set] at hj
  split at hj
  · split at hj
    · exact .inr (Option.some.inj hj).symm
    · cases hj
  · exact .inl (List.mem_of_getElem? hj)

/-- A store into a node that leaves its entries as they are. -/
theorem Fs.set {h : Fsh} {w : World} (H : Fs h w) {g cap : Nat} (hv : h.v = .slice (some ⟨g, 0, none⟩) h.X.length cap) {i : Nat} {n n' : Nd} {ev : Value} (hx : h.X[i]? = some (n, ev)) {k : Nat} (hk : k < 17) {u : Value}
    (hs : n'.cells ev = (n.cells ev).set k u) (he : n'.ents = n.ents) :
    Fs { h with X := h.X.set i (n', ev) } (w.setCell ⟨g, i * 17 + k, none⟩ u) ∧ Grew h { h with X := h.X.set i (n', ev) } w (w.setCell ⟨g, i * 17 + k, none⟩ u) := by
  have hi : i < h.X.length := by
    apply Classical.byContradiction
    intro hn
    rw [List.getElem?_eq_none (by omega)] at hx
    cases hx
  have hvo : h.v.ownBlock = some g := by rw [hv]; rfl
  have hmem : (n, ev) ∈ h.X := List.mem_of_getElem? hx
  refine ⟨⟨?_, ?_, ?_, ?_⟩, ⟨rfl, rfl, rfl, by rw [show (w.setCell ⟨g, i * 17 + k, none⟩ u).heap.size = w.heap.size from by simp [World.setCell]]; exact Nat.le_refl _, ?_, ?_⟩⟩
  · rw [heap_setCell_other _ _ _ _ (fun e => H.p_ne hvo e.symm)]
    exact H.head
  · have := H.own
    rw [hv] at this
    have := owns_setCell this (j := i * 17 + k) (by rw [flat_len]; omega) u
    rw [flat_set h.X i k (n, ev) (n', ev) u hx hk hs] at this
    show World.ownsRow _ _ _ _ h.v (h.X.set i (n', ev)).length _
    rw [List.length_set, hv]
    exact this
  · intro x hx'
    have : ∃ y ∈ h.X, x.2 = y.2 ∧ x.1.ents = y.1.ents := by
      rcases mem_set_iff hx' with q | rfl
      · exact ⟨x, q, rfl, rfl⟩
      · exact ⟨_, hmem, rfl, he⟩
    obtain ⟨y, hy, e1, e2⟩ := this
    rw [e1, e2]
    exact owns_at (H.ents y hy) fun k' e => heap_setCell_other _ _ _ _ (H.v_ne_ent hy e hvo)
  · intro a b hab x y ha hb
    have key : ∀ (c : Nat) (z : Nd × Value), (h.X.set i (n', ev))[c]? = some z → ∃ z', h.X[c]? = some z' ∧ z'.2 = z.2 := by
      intro c z hz
      rw [List.getElem?_set] at hz
      split at hz
      · rename_i hic
        subst hic
        simp at hz
        exact ⟨_, hx, by rw [← hz]⟩
      · exact ⟨z, hz, rfl⟩
    obtain ⟨x', hx1, hx2⟩ := key a x ha
    obtain ⟨y', hy1, hy2⟩ := key b y hb
    rw [← hx2, ← hy2]
    exact H.apart a b hab x' y' hx1 hy1
  · intro k' hk' hn
    exact heap_setCell_other _ _ _ _ (fun e => hn (.inr (.inl (by rw [hvo, e]))))
  · intro k' hk'
    rcases hk' with e | e | ⟨x, hx', e⟩
    · exact .inl (.inl e)
    · exact .inl (.inr (.inl e))
    · rcases mem_set_iff hx' with q | rfl
      · exact .inl (.inr (.inr ⟨x, q, e⟩))
      · exact .inl (.inr (.inr ⟨_, hmem, e⟩))
end Go.Proofs.YtknfhphhcnbndaaGreatDoor.V

namespace Go.Proofs.YtknfhphhcnbndaaGreatDoor.V
open Go.RowKit

def hasB (h : Fsh) (i : Int) : Bool := decide (0 ≤ i ∧ i < (h.X.length : Int))

set_option maxHeartbeats 1000000 in
theorem has_any (h : Fsh) (i : Int) (w : World) (H : Fs h w) (hn : 0 < h.X.length) :
    Calls Tryz.prog 65 #[.pointer (some ⟨h.p, 0, none⟩), .int .i64 i] w fun e w' => e = .returned (.bool (hasB h i)) ∧ w = w' := by
  obtain ⟨g, cap, hv, _, _⟩ := H.slice hn
  have c0 := H.cell0
  rw [hv] at c0
  clear hv
  have HB := Lib.hid (show hasB h i = (decide (0 ≤ i) && decide (i < (h.X.length : Int))) from by simp [hasB])
  rcases Classical.em (0 ≤ i) with hi | hi
  · have d1 : decide (0 ≤ i) = true := decide_eq_true hi
    go_enter Tryz.func65, Tryz.ntmps65
    go_wp2
    go_ret
    exact ⟨ret_bool (by rw [HB.out, d1]; rfl), rfl⟩
  · have d1 : decide (0 ≤ i) = false := decide_eq_false hi
    go_enter Tryz.func65, Tryz.ntmps65
    go_wp2
    go_ret
    exact ⟨ret_bool (by rw [HB.out, d1]; rfl), rfl⟩

set_option maxHeartbeats 1000000 in
theorem isDir_any (h : Fsh) (i : Nat) (x : Nd × Value) (w : World) (H : Fs h w) (hx : h.X[i]? = some x) :
    Calls Tryz.prog 178 #[.pointer (some ⟨h.p, 0, none⟩), .int .i64 (i : Int)] w fun e w' => e = .returned (.bool (x.1.kind == 2)) ∧ w = w' := by
  have hi : i < h.X.length := (List.getElem?_eq_some_iff.1 hx).1
  obtain ⟨g, cap, hv, _, _⟩ := H.slice (by omega)
  have c0 := H.cell0
  rw [hv] at c0
  have c2 := H.at_node hv hx (k := 2) (by omega) rfl
  clear hv
  go_enter Tryz.func178, Tryz.ntmps178
  go_wp2
  go_ret
  exact ⟨ret_bool rfl, rfl⟩

set_option maxHeartbeats 1000000 in
theorem isFirst_any (h : Fsh) (i : Nat) (x : Nd × Value) (w : World) (H : Fs h w) (hx : h.X[i]? = some x) :
    Calls Tryz.prog 90 #[.pointer (some ⟨h.p, 0, none⟩), .int .i64 (i : Int)] w fun e w' => e = .returned (.bool (x.1.ino == 1)) ∧ w = w' := by
  have hi : i < h.X.length := (List.getElem?_eq_some_iff.1 hx).1
  obtain ⟨g, cap, hv, _, _⟩ := H.slice (by omega)
  have c0 := H.cell0
  rw [hv] at c0
  have c2 := H.at_node hv hx (k := 1) (by omega) rfl
  clear hv
  go_enter Tryz.func90, Tryz.ntmps90
  go_wp2
  go_ret
  exact ⟨ret_bool rfl, rfl⟩

set_option maxHeartbeats 1000000 in
theorem over_any (h : Fsh) (i : Nat) (x : Nd × Value) (w : World) (H : Fs h w) (hx : h.X[i]? = some x) :
    Calls Tryz.prog 59 #[.pointer (some ⟨h.p, 0, none⟩), .int .i64 (i : Int)] w fun e w' => e = .returned (.int .i64 x.1.over) ∧ w = w' := by
  have hi : i < h.X.length := (List.getElem?_eq_some_iff.1 hx).1
  obtain ⟨g, cap, hv, _, _⟩ := H.slice (by omega)
  have c0 := H.cell0
  rw [hv] at c0
  have c2 := H.at_node hv hx (k := 15) (by omega) rfl
  have hh := has_any h i w H (by omega)
  rw [show hasB h (i : Int) = true from by simp [hasB, hi]] at hh
  clear hv
  go_enter Tryz.func59, Tryz.ntmps59
  go_wp2_with (refine hh.mono ?_; rintro e w2 ⟨rfl, hw⟩; subst hw)
  go_ret
  exact ⟨rfl, rfl⟩
set_option maxHeartbeats 1000000 in
theorem over_no (h : Fsh) (i : Int) (w : World) (H : Fs h w) (hn : 0 < h.X.length) (hi : hasB h i = false) :
    Calls Tryz.prog 59 #[.pointer (some ⟨h.p, 0, none⟩), .int .i64 i] w fun e w' => e = .returned (.int .i64 i) ∧ w = w' := by
  have hh := has_any h i w H hn
  rw [hi] at hh
  go_enter Tryz.func59, Tryz.ntmps59
  go_wp2_with (refine hh.mono ?_; rintro e w2 ⟨rfl, hw⟩; subst hw)
  go_ret
  exact ⟨rfl, rfl⟩

set_option maxHeartbeats 1000000 in
theorem up_any (h : Fsh) (i : Nat) (x : Nd × Value) (w : World) (H : Fs h w) (hx : h.X[i]? = some x) :
    Calls Tryz.prog 189 #[.pointer (some ⟨h.p, 0, none⟩), .int .i64 (i : Int)] w fun e w' => e = .returned (.int .i64 x.1.up) ∧ w = w' := by
  have hi : i < h.X.length := (List.getElem?_eq_some_iff.1 hx).1
  obtain ⟨g, cap, hv, _, _⟩ := H.slice (by omega)
  have c0 := H.cell0
  rw [hv] at c0
  have c2 := H.at_node hv hx (k := 14) (by omega) rfl
  have hh := has_any h i w H (by omega)
  rw [show hasB h (i : Int) = true from by simp [hasB, hi]] at hh
  clear hv
  go_enter Tryz.func189, Tryz.ntmps189
  go_wp2_with (refine hh.mono ?_; rintro e w2 ⟨rfl, hw⟩; subst hw)
  go_ret
  exact ⟨rfl, rfl⟩
set_option maxHeartbeats 1000000 in
theorem up_no (h : Fsh) (i : Int) (w : World) (H : Fs h w) (hn : 0 < h.X.length) (hi : hasB h i = false) :
    Calls Tryz.prog 189 #[.pointer (some ⟨h.p, 0, none⟩), .int .i64 i] w fun e w' => e = .returned (.int .i64 (-1)) ∧ w = w' := by
  have hh := has_any h i w H hn
  rw [hi] at hh
  go_enter Tryz.func189, Tryz.ntmps189
  go_wp2_with (refine hh.mono ?_; rintro e w2 ⟨rfl, hw⟩; subst hw)
  go_ret
  exact ⟨rfl, rfl⟩

end Go.Proofs.YtknfhphhcnbndaaGreatDoor.V

namespace Go.Proofs.YtknfhphhcnbndaaGreatDoor.V
open Go.RowKit

theorem and_mode (n : Int) : bits .and .i64 n 4095 = n % 4096 := by
  have h127 : (BitVec.ofInt 64 4095).toNat = 2 ^ 12 - 1 := by decide
  have key : (BitVec.ofInt 64 n &&& BitVec.ofInt 64 4095).toNat = (n % ((2 ^ 64 : Nat) : Int)).toNat % 2 ^ 12 := by
    rw [BitVec.toNat_and, BitVec.toNat_ofInt, h127, Nat.and_two_pow_sub_one_eq_mod]
  show IntKind.i64.wrap ((BitVec.ofInt 64 n &&& BitVec.ofInt 64 4095).toNat : Nat) = n % 4096
  rw [key, IntKind.wrap_i64]
  omega
def dirNd (mode up : Int) : Nd := { dev := 0, ino := 0, kind := 2, mode := mode, uid := 0, gid := 0, size := 4096, blocks := 8, links := 2, t0 := 0, t1 := 0, t2 := 0, target := ⟨#[]⟩, dead := false, up := up, over := 0, ents := [] }
def fileNd (mode size blocks : Int) : Nd := { dev := 0, ino := 0, kind := 1, mode := mode, uid := 0, gid := 0, size := size, blocks := blocks, links := 0, t0 := 0, t1 := 0, t2 := 0, target := ⟨#[]⟩, dead := false, up := -1, over := 0, ents := [] }
def linkNd (text : ByteArray) : Nd := { dev := 0, ino := 0, kind := 3, mode := 511, uid := 0, gid := 0, size := (text.size : Int), blocks := 0, links := 0, t0 := 0, t1 := 0, t2 := 0, target := text, dead := false, up := -1, over := 0, ents := [] }
def aggOf (n : Nd) : Value := .agg (n.cells (.slice none 0 0)).toArray
/-- The blocks of a file of that size. -/
def blkOf (n : Int) : Int := 8 * (n / 4096 + if 0 < n % 4096 then 1 else 0)
theorem sizeNode : (Tryz.prog.info? 135).map (·.size) = some 17 := by kernel_rfl
theorem sizeKnown : (Tryz.prog.info? 66).map (·.size) = some 13 := by kernel_rfl

set_option maxHeartbeats 1000000 in
theorem directory_any (m u : Int) (w : World) :
    Calls Tryz.prog 78 #[.int .i64 m, .int .i64 u] w fun e w' => e = .returned (aggOf (dirNd (m % 4096) u)) ∧ Below w.heap.size w w' := by
  rw [← and_mode m]
  go_enter Tryz.func78, Tryz.ntmps78
  go_wp2
  refine bodyPost_ret (v := aggOf (dirNd (bits .and .i64 m 4095) u)) ?_ rfl ⟨rfl, ((Below.refl _ _).alloc (Nat.le_refl _) _).alloc (by simp) _⟩
  exact results_cell_row Tryz.results78 _ _ w.heap.size _ _ _ _ rfl (heap_alloc2_old _ _ _) Tryz.underlying135 rfl sizeNode

set_option maxHeartbeats 1000000 in
theorem link_any (s : ByteArray) (w : World) :
    Calls Tryz.prog 130 #[.string s] w fun e w' => e = .returned (aggOf (linkNd s)) ∧ Below w.heap.size w w' := by
  go_enter Tryz.func130, Tryz.ntmps130
  go_wp2
  refine bodyPost_ret (v := aggOf (linkNd s)) ?_ rfl ⟨rfl, ((Below.refl _ _).alloc (Nat.le_refl _) _)⟩
  exact results_cell_row Tryz.results130 _ _ w.heap.size _ _ _ _ rfl (heap_alloc_new _ _) Tryz.underlying135 rfl sizeNode

theorem quo_rem (n p : Int) (h : 0 ≤ n) : Int.tdiv n p = n / p ∧ Int.tmod n p = n % p := ⟨Int.tdiv_eq_ediv_of_nonneg h, Int.tmod_eq_emod_of_nonneg h⟩

set_option maxHeartbeats 1000000 in
theorem file_any (m n : Int) (w : World) (h0 : 0 ≤ n) (h1 : n ≤ 9223372036854775807) :
    Calls Tryz.prog 128 #[.int .i64 m, .int .i64 n] w fun e w' => e = .returned (aggOf (fileNd (m % 4096) n (blkOf n))) ∧ Below w.heap.size w w' := by
  rw [← and_mode m]
  obtain ⟨q, hq, q0, q1⟩ : ∃ q, Int.tdiv n 4096 = q ∧ 0 ≤ q ∧ q ≤ 2251799813685247 := ⟨_, rfl, by rw [(quo_rem n 4096 h0).1]; omega, by rw [(quo_rem n 4096 h0).1]; omega⟩
  obtain ⟨r, hr, r0, r1⟩ : ∃ r, Int.tmod n 4096 = r ∧ 0 ≤ r ∧ r < 4096 := ⟨_, rfl, by rw [(quo_rem n 4096 h0).2]; omega, by rw [(quo_rem n 4096 h0).2]; omega⟩
  have HB := Lib.hid (show blkOf n = 8 * (q + if 0 < r then 1 else 0) from by rw [blkOf, ← hq, ← hr, (quo_rem n 4096 h0).1, (quo_rem n 4096 h0).2])
  clear h0 h1
  by_cases hp : 0 < r
  · go_enter Tryz.func128, Tryz.ntmps128
    go_wp2
    refine bodyPost_ret (v := aggOf (fileNd (bits .and .i64 m 4095) n (8 * (q + 1)))) ?_ rfl ⟨by rw [HB.out, if_pos hp], ((Below.refl _ _).alloc (Nat.le_refl _) _)⟩
    exact results_cell_row Tryz.results128 _ _ w.heap.size _ _ _ _ rfl (heap_alloc_new _ _) Tryz.underlying135 rfl sizeNode
  · go_enter Tryz.func128, Tryz.ntmps128
    go_wp2
    refine bodyPost_ret (v := aggOf (fileNd (bits .and .i64 m 4095) n (8 * q))) ?_ rfl ⟨by rw [HB.out, if_neg (by omega), Int.add_zero], ((Below.refl _ _).alloc (Nat.le_refl _) _)⟩
    exact results_cell_row Tryz.results128 _ _ w.heap.size _ _ _ _ rfl (heap_alloc_new _ _) Tryz.underlying135 rfl sizeNode
end Go.Proofs.YtknfhphhcnbndaaGreatDoor.V
