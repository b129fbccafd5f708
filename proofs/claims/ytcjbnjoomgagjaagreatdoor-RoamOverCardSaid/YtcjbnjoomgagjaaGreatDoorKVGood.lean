/-
  A file system of the program's, as it lies in memory: a block for its one field, a block of nodes, a block of entries for each node. What a store and an append make of it. Conditions: each fact's own.
  What strings.IndexRune returns of a text of a byte 0 and a slash, and a character from 128 on: -1. Conditions: the character is one of Unicode's numbers.
  Hard bytes of a name: a byte 0 and a slash; where a text has none. Conditions: none.
  What vfs.Good and goodText return: whether a name, or a link's text, is good. Conditions: none.
-/
import Derived.Test.YtcjbnjoomgagjaaGreatDoorRows
import Derived.WalkKit
import Derived.WalkSpells
import Derived.WalkLawsBesides
import Derived.Lib.Hide
import Derived.Lib.OthersKept
import Derived.Laws.AppendOwn
import Derived.Test.YtcjbnjoomgagjaaGreatDoorShelf
import Derived.Scope
import Derived.Deep.QuietTactic
import Derived.BigQuiet
import Derived.Lib.SpaceUEq
import Derived.Laws.RangeAny
set_option linter.unusedVariables false
namespace Go.Proofs.YtcjbnjoomgagjaaGreatDoor.V
open Go.RowKit

theorem ret_int {k : IntKind} {a b : Int} (h : a = b) : Ending.returned (.int k a) = .returned (.int k b) := by rw [h]
theorem ret_bool {a b : Bool} (h : a = b) : Ending.returned (.bool a) = .returned (.bool b) := by rw [h]
theorem below_two {w a b : World} (h : Below w.heap.size w a) (k : Below a.heap.size a b) : Below w.heap.size w b := h.trans (k.mono h.size)

structure Nd where
  dev : Int
  ino : Int
  kind : Int
  mode : Int
  uid : Int
  gid : Int
  size : Int
  blocks : Int
  links : Int
  t0 : Int
  t1 : Int
  t2 : Int
  target : ByteArray
  dead : Bool
  up : Int
  over : Int
  ents : List (ByteArray × Int)

/-- What is known of a node, cell by cell. -/
def Nd.known (n : Nd) : List Value := [.int .i64 n.dev, .int .i64 n.ino, .int .i64 n.kind, .int .i64 n.mode, .int .i64 n.uid, .int .i64 n.gid, .int .i64 n.size, .int .i64 n.blocks, .int .i64 n.links, .int .i64 n.t0, .int .i64 n.t1, .int .i64 n.t2, .string n.target]
/-- A node's cells; ev: the slice of its entries. -/
def Nd.cells (n : Nd) (ev : Value) : List Value := [.int .i64 n.dev, .int .i64 n.ino, .int .i64 n.kind, .int .i64 n.mode, .int .i64 n.uid, .int .i64 n.gid, .int .i64 n.size, .int .i64 n.blocks, .int .i64 n.links, .int .i64 n.t0, .int .i64 n.t1, .int .i64 n.t2, .string n.target, .bool n.dead, .int .i64 n.up, .int .i64 n.over, ev]
def nc (x : Nd × Value) : List Value := x.1.cells x.2
theorem nc_len (x : Nd × Value) : (nc x).length = 17 := rfl
def flat : List (Nd × Value) → List Value
  | [] => []
  | x :: r => nc x ++ flat r
def entCells : List (ByteArray × Int) → List Value
  | [] => []
  | x :: r => .string x.1 :: .int .i64 x.2 :: entCells r

theorem flat_len : ∀ X, (flat X).length = X.length * 17
  | [] => rfl
  | x :: r => by rw [flat, List.length_append, nc_len, flat_len r, List.length_cons]; omega
theorem flat_append : ∀ X Y, flat (X ++ Y) = flat X ++ flat Y
  | [], Y => rfl
  | x :: r, Y => by rw [List.cons_append, flat, flat, flat_append r Y, List.append_assoc]
theorem flat_one (x : Nd × Value) : flat [x] = nc x := by rw [flat, flat, List.append_nil]
theorem flat_get : ∀ (X : List (Nd × Value)) (i k : Nat) (x : Nd × Value), X[i]? = some x → k < 17 → (flat X)[i * 17 + k]? = (nc x)[k]?
  | [], i, k, x, h, _ => by simp at h
  | y :: r, 0, k, x, h, hk => by
    simp at h
    subst h
    rw [flat, Nat.zero_mul, Nat.zero_add, List.getElem?_append_left (by rw [nc_len]; exact hk)]
  | y :: r, i + 1, k, x, h, hk => by
    have h' : r[i]? = some x := by simpa using h
    rw [flat, List.getElem?_append_right (by rw [nc_len]; omega), nc_len, show (i + 1) * 17 + k - 17 = i * 17 + k by omega]
    exact flat_get r i k x h' hk
theorem flat_set : ∀ (X : List (Nd × Value)) (i k : Nat) (x x' : Nd × Value) (u : Value), X[i]? = some x → k < 17 → nc x' = (nc x).set k u → (flat X).set (i * 17 + k) u = flat (X.set i x')
  | [], i, k, x, x', u, h, _, _ => by simp at h
  | y :: r, 0, k, x, x', u, h, hk, hs => by
    simp at h
    subst h
    rw [flat, Nat.zero_mul, Nat.zero_add, List.set_append_left _ _ (by rw [nc_len]; exact hk), ← hs]
    rfl
  | y :: r, i + 1, k, x, x', u, h, hk, hs => by
    have h' : r[i]? = some x := by simpa using h
    rw [flat, List.set_append_right _ _ (by rw [nc_len]; omega), nc_len, show (i + 1) * 17 + k - 17 = i * 17 + k by omega, flat_set r i k x x' u h' hk hs]
    rfl
theorem entCells_len : ∀ l, (entCells l).length = l.length * 2
  | [] => rfl
  | x :: r => by rw [entCells, List.length_cons, List.length_cons, entCells_len r, List.length_cons]; omega
theorem entCells_append : ∀ l m, entCells (l ++ m) = entCells l ++ entCells m
  | [], m => rfl
  | x :: r, m => by rw [List.cons_append, entCells, entCells, entCells_append r m]; rfl
theorem entCells_get : ∀ (l : List (ByteArray × Int)) (i : Nat) (x : ByteArray × Int), l[i]? = some x → (entCells l)[i * 2]? = some (.string x.1) ∧ (entCells l)[i * 2 + 1]? = some (.int .i64 x.2)
  | [], i, x, h => by simp at h
  | y :: r, 0, x, h => by simp at h; subst h; exact ⟨rfl, rfl⟩
  | y :: r, i + 1, x, h => by
    have h' : r[i]? = some x := by simpa using h
    have := entCells_get r i x h'
    rw [entCells, show (i + 1) * 2 = i * 2 + 1 + 1 by omega]
    exact this

/-- A store into an own row. -/
theorem owns_setCell {w : World} {base : Nat} {e : TypeId} {size g n cap : Nat} {xs : List Value} (h : w.ownsRow base e size (.slice (some ⟨g, 0, none⟩) n cap) n xs) {j : Nat} (hj : j < xs.length) (u : Value) :
    (w.setCell ⟨g, j, none⟩ u).ownsRow base e size (.slice (some ⟨g, 0, none⟩) n cap) n (xs.set j u) := by
  obtain ⟨hl, h⟩ := h
  refine ⟨by rw [List.length_set]; exact hl, ?_⟩
  rcases h with ⟨h, _⟩ | ⟨g', cap', cur, hv, hb, hg, hnc, hcm, hcs, ht⟩
  · cases h
  · simp only [Value.slice.injEq, Option.some.injEq, Addr.mk.injEq] at hv
    obtain ⟨⟨rfl, _, _⟩, _, rfl⟩ := hv
    refine .inr ⟨g, cap, cur.setIfInBounds j u, rfl, hb, heap_setCell_same w g j cur e u hg, hnc, hcm, by rw [Array.size_setIfInBounds]; exact hcs, ?_⟩
    rw [Array.toList_setIfInBounds, List.take_set, ht]
theorem owns_frozen {w : World} {base : Nat} {e : TypeId} {size g n cap : Nat} {xs : List Value} (h : w.ownsRow base e size (.slice (some ⟨g, 0, none⟩) n cap) n xs) (j : Nat) : w.frozen? ⟨g, j, none⟩ = false := by
  rcases h.2 with ⟨h, _⟩ | ⟨g', cap', cur, hv, hb, hg, _⟩
  · cases h
  · simp only [Value.slice.injEq, Option.some.injEq, Addr.mk.injEq] at hv
    obtain ⟨⟨rfl, _, _⟩, _, _⟩ := hv
    exact frozen_of_row w g j cur e hg
theorem owns_cell {w : World} {base : Nat} {e : TypeId} {size g n cap : Nat} {xs : List Value} (h : w.ownsRow base e size (.slice (some ⟨g, 0, none⟩) n cap) n xs) {j : Nat} {u : Value} (hu : xs[j]? = some u) : w.cell? ⟨g, j, none⟩ = some u := by
  have := h.cells (g := g) rfl j u hu
  have hadd : (⟨g, 0, none⟩ : Addr).add j = ⟨g, j, none⟩ := by unfold Addr.add; split <;> simp_all
  rwa [hadd] at this
theorem owns_some {w : World} {base : Nat} {e : TypeId} {size n : Nat} {v : Value} {xs : List Value} (h : w.ownsRow base e size v n xs) (hn : 0 < n) : ∃ g cap, v = .slice (some ⟨g, 0, none⟩) n cap ∧ n ≤ cap ∧ cap ≤ maxLen := by
  rcases h.2 with ⟨_, h⟩ | ⟨g, cap, cur, hv, hb, hg, hnc, hcm, _⟩
  · omega
  · exact ⟨g, cap, hv, hnc, hcm⟩
theorem owns_at {w w' : World} {base : Nat} {e : TypeId} {size n : Nat} {v : Value} {xs : List Value} (h : w.ownsRow base e size v n xs) (hk : ∀ k, v.ownBlock = some k → w'.heap[k]? = w.heap[k]?) : w'.ownsRow base e size v n xs := by
  refine ⟨h.1, ?_⟩
  rcases h.2 with hn | ⟨g, cap, cur, rfl, hb, hgg, rest⟩
  · exact .inl hn
  · exact .inr ⟨g, cap, cur, rfl, hb, (hk g rfl).trans hgg, rest⟩
theorem owns_type {w : World} {base : Nat} {e : TypeId} {size n : Nat} {v : Value} {xs : List Value} (h : w.ownsRow base e size v n xs) {k : Nat} (hk : v.ownBlock = some k) : ∃ cur, w.heap[k]? = some (.cells cur e (0, 0)) := by
  rcases h.2 with ⟨rfl, _⟩ | ⟨g, cap, cur, rfl, hb, hgg, rest⟩
  · cases hk
  · cases hk
    exact ⟨cur, hgg⟩

/-- A file system's handle: its block, its slice of nodes, its nodes with their slices of entries. -/
structure Fsh where
  p : Nat
  v : Value
  X : List (Nd × Value)
/-- The blocks that are its own. -/
def Fsh.foot (h : Fsh) (k : Nat) : Prop := k = h.p ∨ h.v.ownBlock = some k ∨ ∃ x ∈ h.X, x.2.ownBlock = some k
def Fsh.M (h : Fsh) : List Nd := h.X.map Prod.fst

structure Fs (h : Fsh) (w : World) : Prop where
  head : w.heap[h.p]? = some (.cells #[h.v] 76 (0, 0))
  own : w.ownsRow 0 86 17 h.v h.X.length (flat h.X)
  ents : ∀ x ∈ h.X, w.ownsRow 0 81 2 x.2 x.1.ents.length (entCells x.1.ents)
  apart : ∀ i j : Nat, i < j → ∀ x y, h.X[i]? = some x → h.X[j]? = some y → x.2.ownBlock = none ∨ x.2.ownBlock ≠ y.2.ownBlock

/-- All but a file system's own blocks is as it was; its own are those that it had, and new ones. -/
structure Grew (h h' : Fsh) (w w' : World) : Prop where
  os : w'.os = w.os
  tape : w'.tape = w.tape
  output : w'.output = w.output
  size : w.heap.size ≤ w'.heap.size
  kept : ∀ k, k < w.heap.size → ¬ h.foot k → w'.heap[k]? = w.heap[k]?
  new : ∀ k, h'.foot k → h.foot k ∨ w.heap.size ≤ k

theorem heap_lt {w : World} {k : Nat} {o : Obj} (h : w.heap[k]? = some o) : k < w.heap.size := by
  apply Classical.byContradiction
  intro hn
  rw [Array.getElem?_eq_none (by omega)] at h
  cases h

theorem Fs.lt {h : Fsh} {w : World} (H : Fs h w) {k : Nat} (hk : h.foot k) : k < w.heap.size := by
  rcases hk with rfl | hk | ⟨x, hx, hk⟩
  · exact heap_lt H.head
  · exact (H.own.lt k hk).2
  · exact ((H.ents x hx).lt k hk).2
theorem Fs.at {h : Fsh} {w w' : World} (H : Fs h w) (hk : ∀ k, h.foot k → w'.heap[k]? = w.heap[k]?) : Fs h w' :=
  ⟨(hk _ (.inl rfl)).trans H.head, owns_at H.own (fun k e => hk k (.inr (.inl e))), fun x hx => owns_at (H.ents x hx) (fun k e => hk k (.inr (.inr ⟨x, hx, e⟩))), H.apart⟩
theorem Fs.keep {h : Fsh} {w w' : World} (H : Fs h w) (hb : Below w.heap.size w w') : Fs h w' := H.at fun k hk => hb.block k (H.lt hk)
theorem Fs.other {f h h' : Fsh} {w w' : World} (H : Fs f w) (hg : Grew h h' w w') (hd : ∀ k, f.foot k → ¬ h.foot k) : Fs f w' := H.at fun k hk => hg.kept k (H.lt hk) (hd k hk)

theorem Grew.refl (h : Fsh) (w : World) : Grew h h w w := ⟨rfl, rfl, rfl, Nat.le_refl _, fun _ _ _ => rfl, fun _ hk => .inl hk⟩
theorem Grew.trans {a b c : Fsh} {w w' w'' : World} (h : Grew a b w w') (k : Grew b c w' w'') : Grew a c w w'' :=
  ⟨k.os.trans h.os, k.tape.trans h.tape, k.output.trans h.output, Nat.le_trans h.size k.size,
    fun i hi hn => (k.kept i (Nat.lt_of_lt_of_le hi h.size) (fun e => by rcases h.new i e with q | q; exact hn q; omega)).trans (h.kept i hi hn),
    fun i hi => by rcases k.new i hi with q | q; exact h.new i q; exact .inr (Nat.le_trans h.size q)⟩
theorem Grew.of_below {h : Fsh} {w w' : World} (hb : Below w.heap.size w w') : Grew h h w w' := ⟨hb.os, hb.tape, hb.output, hb.size, fun k hk _ => hb.block k hk, fun _ hk => .inl hk⟩
theorem Grew.below {h h' : Fsh} {w w' : World} (hg : Grew h h' w w') {B : Nat} (hB : B ≤ w.heap.size) (hf : ∀ k, h.foot k → B ≤ k) : Below B w w' :=
  ⟨hg.os, hg.tape, hg.output, hg.size, fun k hk => hg.kept k (by omega) (fun e => by have := hf k e; omega)⟩

/-- The slice of nodes, where there is one. -/
theorem Fs.slice {h : Fsh} {w : World} (H : Fs h w) (hn : 0 < h.X.length) : ∃ g cap, h.v = .slice (some ⟨g, 0, none⟩) h.X.length cap ∧ h.X.length ≤ cap ∧ cap ≤ maxLen := owns_some H.own hn
theorem Fs.cell0 {h : Fsh} {w : World} (H : Fs h w) : w.cell? ⟨h.p, 0, none⟩ = some h.v := by rw [cell_of_row w _ _ _ _ _ H.head]; rfl
theorem Fs.frozen0 {h : Fsh} {w : World} (H : Fs h w) : w.frozen? ⟨h.p, 0, none⟩ = false := frozen_of_row w _ _ _ _ H.head
theorem Fs.at_node {h : Fsh} {w : World} (H : Fs h w) {g cap : Nat} (hv : h.v = .slice (some ⟨g, 0, none⟩) h.X.length cap) {i : Nat} {x : Nd × Value} (hx : h.X[i]? = some x) {k : Nat} (hk : k < 17) {u : Value} (hu : (nc x)[k]? = some u) : w.cell? ⟨g, i * 17 + k, none⟩ = some u := by
  have := H.own
  rw [hv] at this
  exact owns_cell this ((flat_get _ i k x hx hk).trans hu)
theorem Fs.frozen_node {h : Fsh} {w : World} (H : Fs h w) {g cap : Nat} (hv : h.v = .slice (some ⟨g, 0, none⟩) h.X.length cap) (j : Nat) : w.frozen? ⟨g, j, none⟩ = false := by
  have := H.own
  rw [hv] at this
  exact owns_frozen this j

theorem owns_one {w : World} {base : Nat} {e : TypeId} {size n : Nat} {v : Value} {xs : List Value} (h : w.ownsRow base e size v n xs) : v.oneCell' = true := by
  rcases h.2 with ⟨rfl, _⟩ | ⟨g, cap, cur, rfl, _⟩ <;> rfl
theorem Fs.ev_one {h : Fsh} {w : World} (H : Fs h w) {i : Nat} {x : Nd × Value} (hx : h.X[i]? = some x) : x.2.oneCell' = true := owns_one (H.ents x (List.mem_of_getElem? hx))

/-- The blocks of one file system are all different. -/
theorem Fs.p_ne {h : Fsh} {w : World} (H : Fs h w) {k : Nat} (hk : h.v.ownBlock = some k) : k ≠ h.p := by
  rintro rfl
  obtain ⟨cur, hc⟩ := owns_type H.own hk
  rw [H.head] at hc
  simp at hc
theorem Fs.p_ne_ent {h : Fsh} {w : World} (H : Fs h w) {x : Nd × Value} (hx : x ∈ h.X) {k : Nat} (hk : x.2.ownBlock = some k) : k ≠ h.p := by
  rintro rfl
  obtain ⟨cur, hc⟩ := owns_type (H.ents x hx) hk
  rw [H.head] at hc
  simp at hc
theorem Fs.v_ne_ent {h : Fsh} {w : World} (H : Fs h w) {x : Nd × Value} (hx : x ∈ h.X) {k g : Nat} (hk : x.2.ownBlock = some k) (hg : h.v.ownBlock = some g) : k ≠ g := by
  rintro rfl
  obtain ⟨cur, hc⟩ := owns_type (H.ents x hx) hk
  obtain ⟨cur', hc'⟩ := owns_type H.own hg
  rw [hc'] at hc
  simp at hc

theorem mem_set_iff {α : Type} {l : List α} {i : Nat} {y z : α} (h : z ∈ l.set i y) : z ∈ l ∨ z = y := by
  rw [List.mem_iff_getElem?] at h
  obtain ⟨j, hj⟩ := h
  rw [List.getElem?_set] at hj
  split at hj
  · split at hj
    · exact .inr (Option.some.inj hj).symm
    · cases hj
  · exact .inl (List.mem_of_getElem? hj)

/-- A store into a node that leaves its entries as they are. -/
theorem Fs.set {h : Fsh} {w : World} (H : Fs h w) {g cap : Nat} (hv : h.v = .slice (some ⟨g, 0, none⟩) h.X.length cap) {i : Nat} {n n' : Nd} {ev : Value} (hx : h.X[i]? = some (n, ev)) {k : Nat} (hk : k < 17) {u : Value}
    (hs : n'.cells ev = (n.cells ev).set k u) (he : n'.ents = n.ents) :
    Fs { h with X := h.X.set i (n', ev) } (w.setCell ⟨g, i * 17 + k, none⟩ u) ∧ Grew h { h with X := h.X.set i (n', ev) } w (w.setCell ⟨g, i * 17 + k, none⟩ u) := by
  have hi : i < h.X.length := by
    apply Classical.byContradiction
    intro hn
    rw [List.getElem?_eq_none (by omega)] at hx
    cases hx
  have hvo : h.v.ownBlock = some g := by rw [hv]; rfl
  have hmem : (n, ev) ∈ h.X := List.mem_of_getElem? hx
  refine ⟨⟨?_, ?_, ?_, ?_⟩, ⟨rfl, rfl, rfl, by rw [show (w.setCell ⟨g, i * 17 + k, none⟩ u).heap.size = w.heap.size from by simp [World.setCell]]; exact Nat.le_refl _, ?_, ?_⟩⟩
  · rw [heap_setCell_other _ _ _ _ (fun e => H.p_ne hvo e.symm)]
    exact H.head
  · have := H.own
    rw [hv] at this
    have := owns_setCell this (j := i * 17 + k) (by rw [flat_len]; omega) u
    rw [flat_set h.X i k (n, ev) (n', ev) u hx hk hs] at this
    show World.ownsRow _ _ _ _ h.v (h.X.set i (n', ev)).length _
    rw [List.length_set, hv]
    exact this
  · intro x hx'
    have : ∃ y ∈ h.X, x.2 = y.2 ∧ x.1.ents = y.1.ents := by
      rcases mem_set_iff hx' with q | rfl
      · exact ⟨x, q, rfl, rfl⟩
      · exact ⟨_, hmem, rfl, he⟩
    obtain ⟨y, hy, e1, e2⟩ := this
    rw [e1, e2]
    exact owns_at (H.ents y hy) fun k' e => heap_setCell_other _ _ _ _ (H.v_ne_ent hy e hvo)
  · intro a b hab x y ha hb
    have key : ∀ (c : Nat) (z : Nd × Value), (h.X.set i (n', ev))[c]? = some z → ∃ z', h.X[c]? = some z' ∧ z'.2 = z.2 := by
      intro c z hz
      rw [List.getElem?_set] at hz
      split at hz
      · rename_i hic
        subst hic
        simp at hz
        exact ⟨_, hx, by rw [← hz]⟩
      · exact ⟨z, hz, rfl⟩
    obtain ⟨x', hx1, hx2⟩ := key a x ha
    obtain ⟨y', hy1, hy2⟩ := key b y hb
    rw [← hx2, ← hy2]
    exact H.apart a b hab x' y' hx1 hy1
  · intro k' hk' hn
    exact heap_setCell_other _ _ _ _ (fun e => hn (.inr (.inl (by rw [hvo, e]))))
  · intro k' hk'
    rcases hk' with e | e | ⟨x, hx', e⟩
    · exact .inl (.inl e)
    · exact .inl (.inr (.inl e))
    · rcases mem_set_iff hx' with q | rfl
      · exact .inl (.inr (.inr ⟨x, q, e⟩))
      · exact .inl (.inr (.inr ⟨_, hmem, e⟩))
end Go.Proofs.YtcjbnjoomgagjaaGreatDoor.V

namespace Go.Proofs.YtcjbnjoomgagjaaGreatDoor.V
open Go.RowKit

def hardT : ByteArray := ⟨#[0, 47]⟩
def RuneRel (w : World) (wr : World) : Prop := ∃ pos : Nat, wr.heap[w.heap.size]? = some (.stringIter ⟨#[0, 47]⟩ pos) ∧ pos ≤ 2 ∧ Below w.heap.size w wr
theorem iterPos_at {w : World} {k : Nat} {s : ByteArray} {pos : Nat} (h : w.heap[k]? = some (.stringIter s pos)) : w.iterPos k = pos := by
  unfold World.iterPos; rw [h]
theorem runeRel_next {w wr : World} {pos pos' : Nat} (hk : wr.heap[w.heap.size]? = some (.stringIter ⟨#[0, 47]⟩ pos)) (hp : pos' ≤ 2) (hb : Below w.heap.size w wr) : RuneRel w (wr.iterAt w.heap.size ⟨#[0, 47]⟩ pos') :=
  ⟨pos', Lib.iterAt_heap wr _ _ pos pos' hk, hp, Lib.below_iterAt hb (Nat.le_refl _) _ _⟩

theorem below_drewN' {B n : Nat} {w w' : World} (hb : Below B w w') : Below B w (w'.drewN n) := ⟨hb.os, hb.tape, hb.output, hb.size, hb.block⟩

set_option maxRecDepth 100000 in
set_option maxHeartbeats 4000000 in
theorem runeHi_any (r : Int) (w : World) (h0 : 128 ≤ r) (h1 : r ≤ 1114111) :
    Calls Tryz.prog 96 #[.string ⟨#[0, 47]⟩, .int .i32 r] w fun e w' => e = .returned (.int .i64 (-1)) ∧ Below w.heap.size w w' := by
  by_cases hr : r = 65533
  · subst hr
    go_enter Tryz.func96, Tryz.ntmps96
    go_wp2
    go_loopw [] (RuneRel w) (fun w' => 2 - w'.iterPos w.heap.size)
    case atStart => exact ⟨0, World.iter_heap w _ 0, Nat.zero_le _, (Below.refl _ _).alloc (Nat.le_refl _) _⟩
    case round =>
      obtain ⟨pos, hk, hp, hb⟩ := hrel
      have HK := Lib.hid hk
      have HB := Lib.hid hb
      rcases (show pos = 0 ∨ pos = 1 ∨ pos = 2 from by omega) with rfl | rfl | rfl
      · have hnx : ∀ ty, (Instr.next (.pointer (some ⟨w.heap.size, 0, none⟩)) true ty).run Tryz.prog wr = .ok (.tuple #[.bool true, .int .i64 0, .int .i32 0]) (wr.iterAt w.heap.size ⟨#[0, 47]⟩ 1) := fun ty => Lib.run_next_any_at wr _ ⟨#[0, 47]⟩ 0 ty hk (by decide)
        have R := Lib.hid (runeRel_next hk (show 1 ≤ 2 by omega) hb)
        clear hk hb
        go_wp2
        go_roundw
        case rel => exact R.out
        case measure => rw [iterPos_at (Lib.iterAt_heap wr _ _ _ 1 HK.out), iterPos_at HK.out]; omega
      · have hnx : ∀ ty, (Instr.next (.pointer (some ⟨w.heap.size, 0, none⟩)) true ty).run Tryz.prog wr = .ok (.tuple #[.bool true, .int .i64 1, .int .i32 47]) (wr.iterAt w.heap.size ⟨#[0, 47]⟩ 2) := fun ty => Lib.run_next_any_at wr _ ⟨#[0, 47]⟩ 1 ty hk (by decide)
        have R := Lib.hid (runeRel_next hk (show 2 ≤ 2 by omega) hb)
        clear hk hb
        go_wp2
        go_roundw
        case rel => exact R.out
        case measure => rw [iterPos_at (Lib.iterAt_heap wr _ _ _ 2 HK.out), iterPos_at HK.out]; omega
      · have hnx : ∀ ty, (Instr.next (.pointer (some ⟨w.heap.size, 0, none⟩)) true ty).run Tryz.prog wr = _ := fun ty => Lib.run_next_end_at wr _ ⟨#[0, 47]⟩ 2 ty hk (by decide)
        clear hk hb
        go_wp2
        go_ret
        exact ⟨rfl, HB.out⟩
  · have b0 : (r == 65533) = false := by simp [hr]
    by_cases hv : Lib.validRune r = true
    · go_enter Tryz.func96, Tryz.ntmps96
      go_wp2_with (go_at_call 107; refine (Tryz.utf8_ValidRune r _).mono ?_; rintro e w2 ⟨rfl, hw⟩; subst hw; rw [hv])
      obtain ⟨t2, t4, tl⟩ := encode_facts r (by rw [validRune_eq]; exact hv) h0
      have hw1 : wrap64 (((Utf8.encode r).size : Int) - 1) = ((Utf8.encode r).size : Int) - 1 := by unfold wrap64; omega
      have TL := Lib.hid tl
      clear tl
      refine wp_scope_straight ?_
      go_wp2
      generalize Utf8.encode r = t at *
      go_loopw [9] (fun v wr => v = .int .i64 ((t.size : Int) - 1) ∧ wr = w2) (fun _ _ => 0)
      case atStart => exact ⟨rfl, rfl⟩
      case round =>
        obtain ⟨rfl, rfl⟩ := hrel
        by_cases h2 : t.size = 2
        · have h1s : (t.size : Int) - 1 = 1 := by omega
          have hlt : 1 < t.size := by omega
          have hb : 128 ≤ (t[1]'hlt).toNat := by
            have := TL.out (by omega)
            have e : t.size - 1 = 1 := by omega
            simp only [e] at this
            exact this
          have hne : ((47 : Int) != ((t[1]'hlt).toNat : Int)) = true := by
            rw [bne_iff_ne]; omega
          have hw2 : IntKind.i64.wrap 2 = 2 := by decide
          rw [h1s]
          clear TL
          go_wp2
          refine wp_scope_straight ?_
          go_wp2
          go_quiet (fail)
          go_wp2
          have HB3 := Lib.hid (show Below wr.heap.size wr (wr.drewN nq) from ⟨rfl, rfl, rfl, Nat.le_refl _, fun _ _ => rfl⟩)
          have hib : ∀ c, Lib.indexByte [] c = -1 := fun _ => rfl
          have hib2 : ∀ c, Lib.indexByte ByteArray.empty.data.toList c = -1 := fun _ => rfl
          generalize wr.drewN nq = w3 at *
          go_quiet (first | (go_at_call 86; refine Calls.quiet_of_same (Tryz.strings_IndexByte _ _ _)))
          go_wp2
          · rw [Exit.noGoto_ret]
            go_wp2
            rw [Exit.noGoto_ret]
            go_wp2
            go_ret
            exact ⟨rfl, below_drewN' HB3.out⟩
          · exfalso
            have q : ((((⟨#[0, 47]⟩ : ByteArray)[1]'(by decide)).toNat : Int) != ((t[1]'hlt).toNat : Int)) = false := by assumption
            have q2 : ((((⟨#[0, 47]⟩ : ByteArray)[1]'(by decide)).toNat : Int) != ((t[1]'hlt).toNat : Int)) = true := hne
            rw [q2] at q
            cases q
        · have hge : ¬ ((t.size : Int) - 1 < 2) := by omega
          go_wp2
          go_ret
          exact ⟨rfl, Below.refl _ _⟩
    · have hv' : Lib.validRune r = false := by simpa using hv
      clear hv
      go_enter Tryz.func96, Tryz.ntmps96
      go_wp2_with (go_at_call 107; refine (Tryz.utf8_ValidRune r _).mono ?_; rintro e w2 ⟨rfl, hw⟩; subst hw; rw [hv'])
      go_ret
      exact ⟨rfl, Below.refl _ _⟩
end Go.Proofs.YtcjbnjoomgagjaaGreatDoor.V

namespace Go.Proofs.YtcjbnjoomgagjaaGreatDoor.V
open Go.RowKit

def hardL : List UInt8 := [0, 47]
theorem hard_of {b : UInt8} : hardL.contains b = true ↔ b = 0 ∨ b = 47 := by simp [hardL]
theorem hard_high {b : UInt8} (h : 128 ≤ b.toNat) : hardL.contains b = false := by
  rw [← Bool.not_eq_true, hard_of]
  rintro (rfl | rfl) <;> simp at h

theorem get_at {s : ByteArray} {i : Nat} (h : i < s.size) : s.data.toList[i]? = some (s.get! i) := by
  have h' : i < s.data.toList.length := by rw [← Lib.size_eq]; exact h
  rw [List.getElem?_eq_getElem h', ← Lib.getD_get!' s i, List.getD_eq_getElem?_getD, List.getElem?_eq_getElem h']
  rfl
theorem get_bang {s : ByteArray} {i : Nat} (h : i < s.size) : s.get! i = s[i]'h := by
  have h2 := get_at h
  rw [Lib.data_getElem? s i h] at h2
  exact (Option.some.inj h2).symm

/-- A character from 128 on holds no hard byte. -/
theorem noAny_multi {s : ByteArray} {pos : Nat} (h : pos < s.size) (hb : 128 ≤ (s[pos]'h).toNat) (hn : Lib.NoAny s.data.toList hardL pos) : Lib.NoAny s.data.toList hardL (pos + (Utf8.decode s pos).2) := by
  have hc := Lib.decodeN_conts (s.size - pos) (s.get! pos).toNat (s.get! (pos + 1)).toNat (s.get! (pos + 2)).toNat (s.get! (pos + 3)).toNat
  rw [← Lib.decode_at] at hc
  obtain ⟨c2, c3, c4, c5⟩ := hc
  intro j b hj hjb
  by_cases hlt : j < pos
  · exact hn j b hlt hjb
  · have hjs : j < s.size := by
      have := (List.getElem?_eq_some_iff.1 hjb).1
      rwa [← Lib.size_eq] at this
    have e : b = s.get! j := by
      rw [get_at hjs] at hjb
      exact (Option.some.inj hjb).symm
    refine hard_high ?_
    subst e
    rcases (show j = pos ∨ j = pos + 1 ∨ j = pos + 2 ∨ j = pos + 3 from by omega) with rfl | rfl | rfl | rfl
    · rw [get_bang h]; exact hb
    · have := (c2 (by omega)).1; omega
    · have := (c3 (by omega)).1; omega
    · have := (c4 (by omega)).1; omega
end Go.Proofs.YtcjbnjoomgagjaaGreatDoor.V

namespace Go.Proofs.YtcjbnjoomgagjaaGreatDoor.V
open Go.RowKit

def AnyRel (s : ByteArray) (w : World) (wr : World) : Prop := ∃ pos : Nat, wr.heap[w.heap.size]? = some (.stringIter s pos) ∧ pos ≤ s.size ∧ Below w.heap.size w wr ∧ Lib.NoAny s.data.toList hardL pos
theorem anyRel_next {s : ByteArray} {w wr w2 : World} {pos pos' : Nat} (hk : wr.heap[w.heap.size]? = some (.stringIter s pos)) (hp : pos' ≤ s.size) (hb : Below w.heap.size w wr) (hn : Lib.NoAny s.data.toList hardL pos')
    (h2 : Below (wr.iterAt w.heap.size s pos').heap.size (wr.iterAt w.heap.size s pos') w2) : AnyRel s w w2 ∧ w2.iterPos w.heap.size = pos' := by
  have hlt : w.heap.size < wr.heap.size := (Array.getElem?_eq_some_iff.1 hk).1
  have hsz := Lib.iterAt_size wr w.heap.size s pos'
  have e : w2.heap[w.heap.size]? = some (.stringIter s pos') := by
    rw [h2.block _ (by omega)]
    exact Lib.iterAt_heap wr _ s pos pos' hk
  exact ⟨⟨pos', e, hp, (Lib.below_iterAt hb (Nat.le_refl _) s pos').trans (h2.mono (by omega)), hn⟩, iterPos_at e⟩
theorem decode_bd (s : ByteArray) (pos : Nat) (h : pos < s.size) : (Utf8.decode s pos).1 ≤ 1114111 ∧ 1 ≤ (Utf8.decode s pos).2 ∧ pos + (Utf8.decode s pos).2 ≤ s.size := by
  rw [Lib.decode_at]
  have h0 : (s.get! pos).toNat < 256 := UInt8.toNat_lt _
  refine ⟨Lib.decodeN_rune_le _ _ _ _ _ h0, Lib.decodeN_ge1 _ _ _ _ _, ?_⟩
  have := Lib.decodeN_conts (s.size - pos) (s.get! pos).toNat (s.get! (pos + 1)).toNat (s.get! (pos + 2)).toNat (s.get! (pos + 3)).toNat
  omega
theorem hard_index (b : UInt8) : Lib.indexByte [0, 47] b = if b = 0 then 0 else if b = 47 then 1 else -1 := by
  simp only [Lib.indexByte]
  by_cases h0 : b = 0
  · subst h0; rfl
  · by_cases h1 : b = 47
    · subst h1; rfl
    · have e0 : ((0 : UInt8) == b) = false := by simpa using fun e => h0 e.symm
      have e1 : ((47 : UInt8) == b) = false := by simpa using fun e => h1 e.symm
      simp [e0, e1, h0, h1]

set_option maxRecDepth 100000 in
set_option maxHeartbeats 4000000 in
theorem anyShort (s : ByteArray) (w : World) (hs : s.size ≤ 8) :
    Calls Tryz.prog 90 #[.string s, .string ⟨#[0, 47]⟩] w fun e w' => e = .returned (.int .i64 (Lib.indexAny s.data.toList hardL)) ∧ Below w.heap.size w w' := by
  have d8 : decide ((8 : Int) < (s.size : Int)) = false := decide_eq_false (by omega)
  go_enter Tryz.func90, Tryz.ntmps90
  go_wp2_with (go_at_call 97; refine (Tryz.strings_shouldUseASCIISet _ _).mono ?_; rintro e w2 ⟨rfl, hw⟩; subst hw; rw [d8])
  go_loopw [] (AnyRel s w2) (fun w' => s.size - w'.iterPos w2.heap.size)
  case atStart => exact ⟨0, World.iter_heap w2 s 0, Nat.zero_le _, (Below.refl _ _).alloc (Nat.le_refl _) _, Lib.NoAny.zero _ _⟩
  case round =>
    obtain ⟨pos, hk, hp, hb, hn⟩ := hrel
    have HK := Lib.hid hk
    have HB := Lib.hid hb
    have HN := Lib.hid hn
    by_cases hlt : pos < s.size
    · have hnx : ∀ ty, (Instr.next (.pointer (some ⟨w2.heap.size, 0, none⟩)) true ty).run Tryz.prog wr = _ := fun ty => Lib.run_next_any_at wr _ s pos ty hk hlt
      obtain ⟨hd1, hd2, hd3⟩ := decode_bd s pos hlt
      have hat : s.data.toList[pos]? = some (s[pos]'hlt) := Lib.data_getElem? s pos hlt
      by_cases ha : (s[pos]'hlt).toNat < 128
      · rw [decode_ascii s pos hlt ha] at hnx hd1 hd2 hd3
        have hib := hard_index (s[pos]'hlt)
        obtain ⟨b, hbe⟩ : ∃ b, s[pos]'hlt = b := ⟨_, rfl⟩
        rw [hbe] at hib hat ha hnx
        have HAT := Lib.hid hat
        have hbt : ((b.toNat : Int)).toNat.toUInt8 = b := by simp
        have hcase : hardL.contains b = true ∨ hardL.contains b = false := by cases hardL.contains b <;> simp
        have HC := Lib.hid (iterPos_at HK.out)
        clear hk hb hn hat hbe
        rcases hcase with hc | hc
        · have h2 := hard_of.1 hc
          have hge : (0 : Int) ≤ Lib.indexByte [0, 47] b := by
            rw [hib]
            rcases h2 with rfl | rfl <;> decide
          have R := Lib.hid (Lib.indexAny_hit HN.out HAT.out hc)
          clear hc h2 hib
          go_wp2_with (go_at_call 96; refine (Tryz.strings_IndexRune_ascii ⟨#[0, 47]⟩ (b.toNat : Int) _ (by omega) (by omega)).mono ?_; rintro e w3 ⟨rfl, hw⟩; subst hw; rw [hbt])
          go_ret
          exact ⟨ret_int R.out.symm, Lib.below_iterAt HB.out (Nat.le_refl _) _ _⟩
        · have hlt0 : ¬ ((0 : Int) ≤ Lib.indexByte [0, 47] b) := by
            have n2 : ¬ (b = 0 ∨ b = 47) := fun e => by rw [hard_of.2 e] at hc; cases hc
            rw [hib, if_neg (fun e => n2 (.inl e)), if_neg (fun e => n2 (.inr e))]
            omega
          have R := Lib.hid (anyRel_next HK.out hd3 HB.out (HN.out.succ HAT.out hc) (Below.refl _ _))
          clear hc hib
          go_wp2_with (go_at_call 96; refine (Tryz.strings_IndexRune_ascii ⟨#[0, 47]⟩ (b.toNat : Int) _ (by omega) (by omega)).mono ?_; rintro e w3 ⟨rfl, hw⟩; subst hw; rw [hbt])
          go_roundw
          case rel => exact R.out.1
          case measure => rw [R.out.2, HC.out]; omega
      · have hh := decode_high s pos hlt (by omega)
        have HM := Lib.hid (noAny_multi hlt (by omega) HN.out)
        have HC := Lib.hid (iterPos_at HK.out)
        clear hk hb hn hat
        obtain ⟨r, k, hrk⟩ : ∃ r k, Utf8.decode s pos = (r, k) := ⟨_, _, rfl⟩
        rw [hrk] at hnx hd1 hd2 hd3 hh HM
        have hr1 : 128 ≤ r := hh.1
        have hr2 : r ≤ 1114111 := hd1
        have hk1 : 1 ≤ k := hd2
        have hk2 : pos + k ≤ s.size := hd3
        clear hh hd1 hd2 hd3 hrk
        go_wp2_with (go_at_call 96; refine (runeHi_any (r : Int) _ (by omega) (by omega)).mono ?_; rintro e w3 ⟨rfl, hb3⟩; have R := Lib.hid (anyRel_next HK.out hk2 HB.out HM.out hb3); clear hb3)
        go_roundw
        case rel => exact R.out.1
        case measure => rw [R.out.2, HC.out]; omega
    · have hnx : ∀ ty, (Instr.next (.pointer (some ⟨w2.heap.size, 0, none⟩)) true ty).run Tryz.prog wr = _ := fun ty => Lib.run_next_end_at wr _ s pos ty hk hlt
      have R := Lib.hid (show Lib.indexAny s.data.toList hardL = -1 from Lib.indexAny_none (by rw [← Lib.size_eq, show s.size = pos by omega]; exact HN.out))
      clear hk hb hn
      go_wp2
      go_ret
      exact ⟨ret_int R.out.symm, HB.out⟩

theorem zeroSet : ∀ w, (zeroValue 133).run Tryz.prog w = .ok (.agg (Array.replicate 256 (.bool false))) w := (zero_of_info (n := 256) (by kernel_rfl)).1

theorem any_any (s : ByteArray) (w : World) (hs : s.size < 4294967281) :
    Calls Tryz.prog 90 #[.string s, .string ⟨#[0, 47]⟩] w fun e w' => e = .returned (.int .i64 (Lib.indexAny s.data.toList hardL)) ∧ Below w.heap.size w w' := by
  by_cases h8 : s.size ≤ 8
  · exact anyShort s w h8
  · refine (Tryz.strings_IndexAny_long zeroSet s ⟨#[0, 47]⟩ w (by decide) (by omega) hs (by decide) (fun j b hb => ?_)).mono ?_
    · match j, hb with
      | 0, hb => simp at hb; subst hb; decide
      | 1, hb => simp at hb; subst hb; decide
      | j + 2, hb => simp at hb
    · rintro e w' ⟨rfl, rfl⟩
      exact ⟨rfl, ((Below.refl _ _).alloc (Nat.le_refl _) _).alloc (by simp) _⟩

theorem contains_any (s : ByteArray) (w : World) (hs : s.size < 4294967281) :
    Calls Tryz.prog 85 #[.string s, .string ⟨#[0, 47]⟩] w fun e w' => e = .returned (.bool (decide (0 ≤ Lib.indexAny s.data.toList hardL))) ∧ Below w.heap.size w w' := by
  have H := Lib.hid (any_any s w hs)
  go_enter Tryz.func85, Tryz.ntmps85
  go_wp2_with (go_at_call 90; refine H.out.mono ?_; rintro e w2 ⟨rfl, hb⟩; have HB := Lib.hid hb; clear hb)
  go_ret
  exact ⟨rfl, HB.out⟩

/-- Is it a good name? -/
def goodB (s : ByteArray) : Bool := decide (1 ≤ s.size) && (decide (s.size ≤ 255) && (!(s.toList == [46]) && (!(s.toList == [46, 46]) && !(decide (0 ≤ Lib.indexAny s.data.toList hardL)))))

set_option maxHeartbeats 2000000 in
theorem good_any (s : ByteArray) (w : World) :
    Calls Tryz.prog 77 #[.string s] w fun e w' => e = .returned (.bool (goodB s)) ∧ Below w.heap.size w w' := by
  by_cases h1 : s.size < 1
  · have HG := Lib.hid (show goodB s = false from by unfold goodB; rw [show decide (1 ≤ s.size) = false from decide_eq_false (by omega)]; rfl)
    have d1 : decide ((s.size : Int) < 1) = true := decide_eq_true (by omega)
    go_enter Tryz.func77, Tryz.ntmps77
    go_wp2
    go_ret
    exact ⟨ret_bool HG.out.symm, Below.refl _ _⟩
  by_cases h2 : 255 < s.size
  · have HG := Lib.hid (show goodB s = false from by unfold goodB; rw [show decide (s.size ≤ 255) = false from decide_eq_false (by omega)]; cases decide (1 ≤ s.size) <;> rfl)
    have d1 : decide ((s.size : Int) < 1) = false := decide_eq_false (by omega)
    have d2 : decide ((255 : Int) < (s.size : Int)) = true := decide_eq_true (by omega)
    go_enter Tryz.func77, Tryz.ntmps77
    go_wp2
    go_ret
    exact ⟨ret_bool HG.out.symm, Below.refl _ _⟩
  have d1 : decide ((s.size : Int) < 1) = false := decide_eq_false (by omega)
  have d2 : decide ((255 : Int) < (s.size : Int)) = false := decide_eq_false (by omega)
  have HG := Lib.hid (show goodB s = (!(s.toList == [46]) && (!(s.toList == [46, 46]) && !(decide (0 ≤ Lib.indexAny s.data.toList hardL)))) from by
    unfold goodB; rw [show decide (1 ≤ s.size) = true from decide_eq_true (by omega), show decide (s.size ≤ 255) = true from decide_eq_true (by omega)]; rfl)
  have HC := Lib.hid (contains_any s w (by omega))
  clear h1 h2
  cases e1 : s.toList == [46] with
  | true =>
    have n1 : s.toList = [46] := by simpa using e1
    have HE := Lib.hid e1
    clear e1
    go_enter Tryz.func77, Tryz.ntmps77
    go_wp2
    go_ret
    exact ⟨ret_bool (by rw [HG.out, HE.out]; rfl), Below.refl _ _⟩
  | false =>
    have n1 : ¬ s.toList = [46] := by simpa using e1
    have HE := Lib.hid e1
    clear e1
    cases e2 : s.toList == [46, 46] with
    | true =>
      have n2 : s.toList = [46, 46] := by simpa using e2
      clear n1
      have HE2 := Lib.hid e2
      clear e2
      go_enter Tryz.func77, Tryz.ntmps77
      go_wp2
      go_ret
      exact ⟨ret_bool (by rw [HG.out, HE.out, HE2.out]; rfl), Below.refl _ _⟩
    | false =>
      have n2 : ¬ s.toList = [46, 46] := by simpa using e2
      have HE2 := Lib.hid e2
      clear e2
      go_enter Tryz.func77, Tryz.ntmps77
      go_wp2_with (go_at_call 85; refine HC.out.mono ?_; rintro e w2 ⟨rfl, hb⟩; have HB := Lib.hid hb; clear hb)
      go_ret
      exact ⟨ret_bool (by rw [HG.out, HE.out, HE2.out]; simp), HB.out⟩

/-- Is it a good text of a link? -/
def textB (s : ByteArray) : Bool := decide (1 ≤ s.size) && (decide (s.size ≤ 4096) && decide (Lib.indexByte s.data.toList 0 < 0))
set_option maxHeartbeats 2000000 in
theorem goodText_any (s : ByteArray) (w : World) :
    Calls Tryz.prog 80 #[.string s] w fun e w' => e = .returned (.bool (textB s)) ∧ w = w' := by
  by_cases h1 : 1 ≤ s.size
  · have d1 : decide ((1 : Int) ≤ (s.size : Int)) = true := decide_eq_true (by omega)
    by_cases h2 : s.size ≤ 4096
    · have d2 : decide ((s.size : Int) ≤ 4096) = true := decide_eq_true (by omega)
      have HG := Lib.hid (show textB s = decide (Lib.indexByte s.data.toList 0 < 0) from by unfold textB; rw [decide_eq_true h1, decide_eq_true h2]; rfl)
      go_enter Tryz.func80, Tryz.ntmps80
      go_wp2_with (go_at_call 86; refine (Tryz.strings_IndexByte s 0 w).mono ?_; rintro e w2 ⟨rfl, hw⟩; subst hw)
      go_ret
      exact ⟨ret_bool (by rw [HG.out]), rfl⟩
    · have d2 : decide ((s.size : Int) ≤ 4096) = false := decide_eq_false (by omega)
      have HG := Lib.hid (show textB s = false from by unfold textB; rw [decide_eq_false h2]; cases decide (1 ≤ s.size) <;> rfl)
      go_enter Tryz.func80, Tryz.ntmps80
      go_wp2
      go_ret
      exact ⟨ret_bool HG.out.symm, rfl⟩
  · have d1 : decide ((1 : Int) ≤ (s.size : Int)) = false := decide_eq_false (by omega)
    have HG := Lib.hid (show textB s = false from by unfold textB; rw [decide_eq_false h1]; rfl)
    go_enter Tryz.func80, Tryz.ntmps80
    go_wp2
    go_ret
    exact ⟨ret_bool HG.out.symm, rfl⟩
end Go.Proofs.YtcjbnjoomgagjaaGreatDoor.V
