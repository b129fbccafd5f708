/-
  A file system of the program's, as it lies in memory.
  Conditions: each fact's own.
-/
import Derived.Test.YtfhagjnlliafiaaGreatDoorRows
import Derived.WalkKit
import Derived.WalkSpells
import Derived.WalkLawsBesides
import Derived.Lib.Hide
import Derived.Lib.OthersKept
import Derived.Laws.AppendOwn
import Derived.Laws.Bits128
import Derived.Deep.AppendLies
import Derived.Deep.RegionLaw
import Derived.Deep.MidRow
import Derived.Deep.WholeRow
set_option linter.unusedVariables false
set_option maxHeartbeats 4000000
set_option maxRecDepth 100000
namespace Go.Proofs.YtfhagjnlliafiaaGreatDoor.V
open Go.RowKit
theorem ret_int {k : IntKind} {a b : Int} (h : a = b) : Ending.returned (.int k a) = .returned (.int k b) := by rw [h]
theorem ret_bool {a b : Bool} (h : a = b) : Ending.returned (.bool a) = .returned (.bool b) := by rw [h]
theorem below_two {w a b : World} (h : Below w.heap.size w a) (k : Below a.heap.size a b) : Below w.heap.size w b := h.trans (k.mono h.size)
structure Nd where
  dev : Int
  ino : Int
  kind : Int
  mode : Int
  uid : Int
  gid : Int
  size : Int
  blocks : Int
  links : Int
  t0 : Int
  t1 : Int
  t2 : Int
  target : ByteArray
  dead : Bool
  up : Int
  over : Int
  ents : List (ByteArray × Int)
def Nd.known (n : Nd) : List Value := [.int .i64 n.dev, .int .i64 n.ino, .int .i64 n.kind, .int .i64 n.mode, .int .i64 n.uid, .int .i64 n.gid, .int .i64 n.size, .int .i64 n.blocks, .int .i64 n.links, .int .i64 n.t0, .int .i64 n.t1, .int .i64 n.t2, .string n.target]
def Nd.cells (n : Nd) (ev : Value) : List Value := [.int .i64 n.dev, .int .i64 n.ino, .int .i64 n.kind, .int .i64 n.mode, .int .i64 n.uid, .int .i64 n.gid, .int .i64 n.size, .int .i64 n.blocks, .int .i64 n.links, .int .i64 n.t0, .int .i64 n.t1, .int .i64 n.t2, .string n.target, .bool n.dead, .int .i64 n.up, .int .i64 n.over, ev]
def nc (x : Nd × Value) : List Value := x.1.cells x.2
theorem nc_len (x : Nd × Value) : (nc x).length = 17 := rfl
def flat : List (Nd × Value) → List Value
  | [] => []
  | x :: r => nc x ++ flat r
def entCells : List (ByteArray × Int) → List Value
  | [] => []
  | x :: r => .string x.1 :: .int .i64 x.2 :: entCells r
theorem flat_len : ∀ X, (flat X).length = X.length * 17
  | [] => rfl
  | x :: r => by rw [flat, List.length_append, nc_len, flat_len r, List.length_cons]; omega
theorem flat_append : ∀ X Y, flat (X ++ Y) = flat X ++ flat Y
  | [], Y => rfl
  | x :: r, Y => by rw [List.cons_append, flat, flat, flat_append r Y, List.append_assoc]
theorem flat_one (x : Nd × Value) : flat [x] = nc x := by rw [flat, flat, List.append_nil]
theorem flat_get : ∀ (X : List (Nd × Value)) (i k : Nat) (x : Nd × Value), X[i]? = some x → k < 17 → (flat X)[i * 17 + k]? = (nc x)[k]?
  | [], i, k, x, h, _ => by simp at h
  | y :: r, 0, k, x, h, hk => by
    simp at h
    subst h
    rw [flat, Nat.zero_mul, Nat.zero_add, List.getElem?_append_left (by rw [nc_len]; exact hk)]
  | y :: r, i + 1, k, x, h, hk => by
    have h' : r[i]? = some x := by simpa using h
    rw [flat, List.getElem?_append_right (by rw [nc_len]; omega), nc_len, show (i + 1) * 17 + k - 17 = i * 17 + k by omega]
    exact flat_get r i k x h' hk
theorem flat_set : ∀ (X : List (Nd × Value)) (i k : Nat) (x x' : Nd × Value) (u : Value), X[i]? = some x → k < 17 → nc x' = (nc x).set k u → (flat X).set (i * 17 + k) u = flat (X.set i x')
  | [], i, k, x, x', u, h, _, _ => by simp at h
  | y :: r, 0, k, x, x', u, h, hk, hs => by
    simp at h
    subst h
    rw [flat, Nat.zero_mul, Nat.zero_add, List.set_append_left _ _ (by rw [nc_len]; exact hk), ← hs]
    rfl
  | y :: r, i + 1, k, x, x', u, h, hk, hs => by
    have h' : r[i]? = some x := by simpa using h
    rw [flat, List.set_append_right _ _ (by rw [nc_len]; omega), nc_len, show (i + 1) * 17 + k - 17 = i * 17 + k by omega, flat_set r i k x x' u h' hk hs]
    rfl
theorem entCells_append : ∀ l m, entCells (l ++ m) = entCells l ++ entCells m
  | [], m => rfl
  | x :: r, m => by rw [List.cons_append, entCells, entCells, entCells_append r m]; rfl
theorem entCells_get : ∀ (l : List (ByteArray × Int)) (i : Nat) (x : ByteArray × Int), l[i]? = some x → (entCells l)[i * 2]? = some (.string x.1) ∧ (entCells l)[i * 2 + 1]? = some (.int .i64 x.2)
  | [], i, x, h => by simp at h
  | y :: r, 0, x, h => by simp at h; subst h; exact ⟨rfl, rfl⟩
  | y :: r, i + 1, x, h => by
    have h' : r[i]? = some x := by simpa using h
    have := entCells_get r i x h'
    rw [entCells, show (i + 1) * 2 = i * 2 + 1 + 1 by omega]
    exact this
theorem owns_setCell {w : World} {base : Nat} {e : TypeId} {size g n cap : Nat} {xs : List Value} (h : w.ownsRow base e size (.slice (some ⟨g, 0, none⟩) n cap) n xs) {j : Nat} (hj : j < xs.length) (u : Value) :
    (w.setCell ⟨g, j, none⟩ u).ownsRow base e size (.slice (some ⟨g, 0, none⟩) n cap) n (xs.set j u) := by
  obtain ⟨hl, h⟩ := h
  refine ⟨by rw [List.length_set]; exact hl, ?_⟩
  rcases h with ⟨h, _⟩ | ⟨g', cap', cur, hv, hb, hg, hnc, hcm, hcs, ht⟩
  · cases h
  · simp only [Value.slice.injEq, Option.some.injEq, Addr.mk.injEq] at hv
    obtain ⟨⟨rfl, _, _⟩, _, rfl⟩ := hv
    refine .inr ⟨g, cap, cur.setIfInBounds j u, rfl, hb, heap_setCell_same w g j cur e u hg, hnc, hcm, by rw [Array.size_setIfInBounds]; exact hcs, ?_⟩
    rw [Array.toList_setIfInBounds, List.take_set, ht]
theorem owns_frozen {w : World} {base : Nat} {e : TypeId} {size g n cap : Nat} {xs : List Value} (h : w.ownsRow base e size (.slice (some ⟨g, 0, none⟩) n cap) n xs) (j : Nat) : w.frozen? ⟨g, j, none⟩ = false := by
  rcases h.2 with ⟨h, _⟩ | ⟨g', cap', cur, hv, hb, hg, _⟩
  · cases h
  · simp only [Value.slice.injEq, Option.some.injEq, Addr.mk.injEq] at hv
    obtain ⟨⟨rfl, _, _⟩, _, _⟩ := hv
    exact frozen_of_row w g j cur e hg
theorem owns_cell {w : World} {base : Nat} {e : TypeId} {size g n cap : Nat} {xs : List Value} (h : w.ownsRow base e size (.slice (some ⟨g, 0, none⟩) n cap) n xs) {j : Nat} {u : Value} (hu : xs[j]? = some u) : w.cell? ⟨g, j, none⟩ = some u := by
  have := h.cells (g := g) rfl j u hu
  have hadd : (⟨g, 0, none⟩ : Addr).add j = ⟨g, j, none⟩ := by unfold Addr.add; split <;> simp_all
  rwa [hadd] at this
theorem owns_some {w : World} {base : Nat} {e : TypeId} {size n : Nat} {v : Value} {xs : List Value} (h : w.ownsRow base e size v n xs) (hn : 0 < n) : ∃ g cap, v = .slice (some ⟨g, 0, none⟩) n cap ∧ n ≤ cap ∧ cap ≤ maxLen := by
  rcases h.2 with ⟨_, h⟩ | ⟨g, cap, cur, hv, hb, hg, hnc, hcm, _⟩
  · omega
  · exact ⟨g, cap, hv, hnc, hcm⟩
theorem owns_at {w w' : World} {base : Nat} {e : TypeId} {size n : Nat} {v : Value} {xs : List Value} (h : w.ownsRow base e size v n xs) (hk : ∀ k, v.ownBlock = some k → w'.heap[k]? = w.heap[k]?) : w'.ownsRow base e size v n xs := by
  refine ⟨h.1, ?_⟩
  rcases h.2 with hn | ⟨g, cap, cur, rfl, hb, hgg, rest⟩
  · exact .inl hn
  · exact .inr ⟨g, cap, cur, rfl, hb, (hk g rfl).trans hgg, rest⟩
theorem owns_type {w : World} {base : Nat} {e : TypeId} {size n : Nat} {v : Value} {xs : List Value} (h : w.ownsRow base e size v n xs) {k : Nat} (hk : v.ownBlock = some k) : ∃ cur, w.heap[k]? = some (.cells cur e (0, 0)) := by
  rcases h.2 with ⟨rfl, _⟩ | ⟨g, cap, cur, rfl, hb, hgg, rest⟩
  · cases hk
  · cases hk
    exact ⟨cur, hgg⟩
structure Fsh where
  p : Nat
  v : Value
  X : List (Nd × Value)
def Fsh.foot (h : Fsh) (k : Nat) : Prop := k = h.p ∨ h.v.ownBlock = some k ∨ ∃ x ∈ h.X, x.2.ownBlock = some k
def Fsh.M (h : Fsh) : List Nd := h.X.map Prod.fst
structure Fs (h : Fsh) (w : World) : Prop where
  head : w.heap[h.p]? = some (.cells #[h.v] 84 (0, 0))
  own : w.ownsRow 0 87 17 h.v h.X.length (flat h.X)
  ents : ∀ x ∈ h.X, w.ownsRow 0 46 2 x.2 x.1.ents.length (entCells x.1.ents)
  apart : ∀ i j : Nat, i < j → ∀ x y, h.X[i]? = some x → h.X[j]? = some y → x.2.ownBlock = none ∨ x.2.ownBlock ≠ y.2.ownBlock
structure Grew (h h' : Fsh) (w w' : World) : Prop where
  os : w'.os = w.os
  tape : w'.tape = w.tape
  output : w'.output = w.output
  size : w.heap.size ≤ w'.heap.size
  kept : ∀ k, k < w.heap.size → ¬ h.foot k → w'.heap[k]? = w.heap[k]?
  new : ∀ k, h'.foot k → h.foot k ∨ w.heap.size ≤ k
theorem heap_lt {w : World} {k : Nat} {o : Obj} (h : w.heap[k]? = some o) : k < w.heap.size := by
  apply Classical.byContradiction
  intro hn
  rw [Array.getElem?_eq_none (by omega)] at h
  cases h
theorem Fs.lt {h : Fsh} {w : World} (H : Fs h w) {k : Nat} (hk : h.foot k) : k < w.heap.size := by
  rcases hk with rfl | hk | ⟨x, hx, hk⟩
  · exact heap_lt H.head
  · exact (H.own.lt k hk).2
  · exact ((H.ents x hx).lt k hk).2
theorem Fs.at {h : Fsh} {w w' : World} (H : Fs h w) (hk : ∀ k, h.foot k → w'.heap[k]? = w.heap[k]?) : Fs h w' :=
  ⟨(hk _ (.inl rfl)).trans H.head, owns_at H.own (fun k e => hk k (.inr (.inl e))), fun x hx => owns_at (H.ents x hx) (fun k e => hk k (.inr (.inr ⟨x, hx, e⟩))), H.apart⟩
theorem Fs.keep {h : Fsh} {w w' : World} (H : Fs h w) (hb : Below w.heap.size w w') : Fs h w' := H.at fun k hk => hb.block k (H.lt hk)
theorem Grew.refl (h : Fsh) (w : World) : Grew h h w w := ⟨rfl, rfl, rfl, Nat.le_refl _, fun _ _ _ => rfl, fun _ hk => .inl hk⟩
theorem Grew.trans {a b c : Fsh} {w w' w'' : World} (h : Grew a b w w') (k : Grew b c w' w'') : Grew a c w w'' :=
  ⟨k.os.trans h.os, k.tape.trans h.tape, k.output.trans h.output, Nat.le_trans h.size k.size,
    fun i hi hn => (k.kept i (Nat.lt_of_lt_of_le hi h.size) (fun e => by rcases h.new i e with q | q; exact hn q; omega)).trans (h.kept i hi hn),
    fun i hi => by rcases k.new i hi with q | q; exact h.new i q; exact .inr (Nat.le_trans h.size q)⟩
theorem Grew.of_below {h : Fsh} {w w' : World} (hb : Below w.heap.size w w') : Grew h h w w' := ⟨hb.os, hb.tape, hb.output, hb.size, fun k hk _ => hb.block k hk, fun _ hk => .inl hk⟩
theorem Grew.below {h h' : Fsh} {w w' : World} (hg : Grew h h' w w') {B : Nat} (hB : B ≤ w.heap.size) (hf : ∀ k, h.foot k → B ≤ k) : Below B w w' :=
  ⟨hg.os, hg.tape, hg.output, hg.size, fun k hk => hg.kept k (by omega) (fun e => by have := hf k e; omega)⟩
theorem Fs.slice {h : Fsh} {w : World} (H : Fs h w) (hn : 0 < h.X.length) : ∃ g cap, h.v = .slice (some ⟨g, 0, none⟩) h.X.length cap ∧ h.X.length ≤ cap ∧ cap ≤ maxLen := owns_some H.own hn
theorem Fs.cell0 {h : Fsh} {w : World} (H : Fs h w) : w.cell? ⟨h.p, 0, none⟩ = some h.v := by rw [cell_of_row w _ _ _ _ _ H.head]; rfl
theorem Fs.frozen0 {h : Fsh} {w : World} (H : Fs h w) : w.frozen? ⟨h.p, 0, none⟩ = false := frozen_of_row w _ _ _ _ H.head
theorem Fs.at_node {h : Fsh} {w : World} (H : Fs h w) {g cap : Nat} (hv : h.v = .slice (some ⟨g, 0, none⟩) h.X.length cap) {i : Nat} {x : Nd × Value} (hx : h.X[i]? = some x) {k : Nat} (hk : k < 17) {u : Value} (hu : (nc x)[k]? = some u) : w.cell? ⟨g, i * 17 + k, none⟩ = some u := by
  have := H.own
  rw [hv] at this
  exact owns_cell this ((flat_get _ i k x hx hk).trans hu)
theorem Fs.frozen_node {h : Fsh} {w : World} (H : Fs h w) {g cap : Nat} (hv : h.v = .slice (some ⟨g, 0, none⟩) h.X.length cap) (j : Nat) : w.frozen? ⟨g, j, none⟩ = false := by
  have := H.own
  rw [hv] at this
  exact owns_frozen this j
theorem owns_one {w : World} {base : Nat} {e : TypeId} {size n : Nat} {v : Value} {xs : List Value} (h : w.ownsRow base e size v n xs) : v.oneCell' = true := by
  rcases h.2 with ⟨rfl, _⟩ | ⟨g, cap, cur, rfl, _⟩ <;> rfl
theorem Fs.ev_one {h : Fsh} {w : World} (H : Fs h w) {i : Nat} {x : Nd × Value} (hx : h.X[i]? = some x) : x.2.oneCell' = true := owns_one (H.ents x (List.mem_of_getElem? hx))
theorem Fs.p_ne {h : Fsh} {w : World} (H : Fs h w) {k : Nat} (hk : h.v.ownBlock = some k) : k ≠ h.p := by
  rintro rfl
  obtain ⟨cur, hc⟩ := owns_type H.own hk
  rw [H.head] at hc
  simp at hc
theorem Fs.p_ne_ent {h : Fsh} {w : World} (H : Fs h w) {x : Nd × Value} (hx : x ∈ h.X) {k : Nat} (hk : x.2.ownBlock = some k) : k ≠ h.p := by
  rintro rfl
  obtain ⟨cur, hc⟩ := owns_type (H.ents x hx) hk
  rw [H.head] at hc
  simp at hc
theorem Fs.v_ne_ent {h : Fsh} {w : World} (H : Fs h w) {x : Nd × Value} (hx : x ∈ h.X) {k g : Nat} (hk : x.2.ownBlock = some k) (hg : h.v.ownBlock = some g) : k ≠ g := by
  rintro rfl
  obtain ⟨cur, hc⟩ := owns_type (H.ents x hx) hk
  obtain ⟨cur', hc'⟩ := owns_type H.own hg
  rw [hc'] at hc
  simp at hc
theorem mem_set_iff {α : Type} {l : List α} {i : Nat} {y z : α} (h : z ∈ l.set i y) : z ∈ l ∨ z = y := by
  rw [List.mem_iff_getElem?] at h
  obtain ⟨j, hj⟩ := h
  rw [List.getElem?_set] at hj
  split at hj
  · split at hj
    · exact .inr (Option.some.inj hj).symm
    · cases hj
  · exact .inl (List.mem_of_getElem? hj)
theorem Fs.set {h : Fsh} {w : World} (H : Fs h w) {g cap : Nat} (hv : h.v = .slice (some ⟨g, 0, none⟩) h.X.length cap) {i : Nat} {n n' : Nd} {ev : Value} (hx : h.X[i]? = some (n, ev)) {k : Nat} (hk : k < 17) {u : Value}
    (hs : n'.cells ev = (n.cells ev).set k u) (he : n'.ents = n.ents) :
    Fs { h with X := h.X.set i (n', ev) } (w.setCell ⟨g, i * 17 + k, none⟩ u) ∧ Grew h { h with X := h.X.set i (n', ev) } w (w.setCell ⟨g, i * 17 + k, none⟩ u) := by
  have hi : i < h.X.length := by
    apply Classical.byContradiction
    intro hn
    rw [List.getElem?_eq_none (by omega)] at hx
    cases hx
  have hvo : h.v.ownBlock = some g := by rw [hv]; rfl
  have hmem : (n, ev) ∈ h.X := List.mem_of_getElem? hx
  refine ⟨⟨?_, ?_, ?_, ?_⟩, ⟨rfl, rfl, rfl, by rw [show (w.setCell ⟨g, i * 17 + k, none⟩ u).heap.size = w.heap.size from by simp [World.setCell]]; exact Nat.le_refl _, ?_, ?_⟩⟩
  · rw [heap_setCell_other _ _ _ _ (fun e => H.p_ne hvo e.symm)]
    exact H.head
  · have := H.own
    rw [hv] at this
    have := owns_setCell this (j := i * 17 + k) (by rw [flat_len]; omega) u
    rw [flat_set h.X i k (n, ev) (n', ev) u hx hk hs] at this
    show World.ownsRow _ _ _ _ h.v (h.X.set i (n', ev)).length _
    rw [List.length_set, hv]
    exact this
  · intro x hx'
    have : ∃ y ∈ h.X, x.2 = y.2 ∧ x.1.ents = y.1.ents := by
      rcases mem_set_iff hx' with q | rfl
      · exact ⟨x, q, rfl, rfl⟩
      · exact ⟨_, hmem, rfl, he⟩
    obtain ⟨y, hy, e1, e2⟩ := this
    rw [e1, e2]
    exact owns_at (H.ents y hy) fun k' e => heap_setCell_other _ _ _ _ (H.v_ne_ent hy e hvo)
  · intro a b hab x y ha hb
    have key : ∀ (c : Nat) (z : Nd × Value), (h.X.set i (n', ev))[c]? = some z → ∃ z', h.X[c]? = some z' ∧ z'.2 = z.2 := by
      intro c z hz
      rw [List.getElem?_set] at hz
      split at hz
      · rename_i hic
        subst hic
        simp at hz
        exact ⟨_, hx, by rw [← hz]⟩
      · exact ⟨z, hz, rfl⟩
    obtain ⟨x', hx1, hx2⟩ := key a x ha
    obtain ⟨y', hy1, hy2⟩ := key b y hb
    rw [← hx2, ← hy2]
    exact H.apart a b hab x' y' hx1 hy1
  · intro k' hk' hn
    exact heap_setCell_other _ _ _ _ (fun e => hn (.inr (.inl (by rw [hvo, e]))))
  · intro k' hk'
    rcases hk' with e | e | ⟨x, hx', e⟩
    · exact .inl (.inl e)
    · exact .inl (.inr (.inl e))
    · rcases mem_set_iff hx' with q | rfl
      · exact .inl (.inr (.inr ⟨x, q, e⟩))
      · exact .inl (.inr (.inr ⟨_, hmem, e⟩))
end Go.Proofs.YtfhagjnlliafiaaGreatDoor.V
namespace Go.Proofs.YtfhagjnlliafiaaGreatDoor.V
open Go.RowKit
def hasB (h : Fsh) (i : Int) : Bool := decide (0 ≤ i ∧ i < (h.X.length : Int))
theorem has_any (h : Fsh) (i : Int) (w : World) (H : Fs h w) (hn : 0 < h.X.length) :
    Calls Tryz.prog 75 #[.pointer (some ⟨h.p, 0, none⟩), .int .i64 i] w fun e w' => e = .returned (.bool (hasB h i)) ∧ w = w' := by
  obtain ⟨g, cap, hv, _, _⟩ := H.slice hn
  have c0 := H.cell0
  rw [hv] at c0
  clear hv
  have HB := Lib.hid (show hasB h i = (decide (0 ≤ i) && decide (i < (h.X.length : Int))) from by simp [hasB])
  rcases Classical.em (0 ≤ i) with hi | hi
  · have d1 : decide (0 ≤ i) = true := decide_eq_true hi
    go_enter Tryz.func75, Tryz.ntmps75
    go_wp2
    go_ret
    exact ⟨ret_bool (by rw [HB.out, d1]; rfl), rfl⟩
  · have d1 : decide (0 ≤ i) = false := decide_eq_false hi
    go_enter Tryz.func75, Tryz.ntmps75
    go_wp2
    go_ret
    exact ⟨ret_bool (by rw [HB.out, d1]; rfl), rfl⟩
theorem isDir_any (h : Fsh) (i : Nat) (x : Nd × Value) (w : World) (H : Fs h w) (hx : h.X[i]? = some x) :
    Calls Tryz.prog 91 #[.pointer (some ⟨h.p, 0, none⟩), .int .i64 (i : Int)] w fun e w' => e = .returned (.bool (x.1.kind == 2)) ∧ w = w' := by
  have hi : i < h.X.length := (List.getElem?_eq_some_iff.1 hx).1
  obtain ⟨g, cap, hv, _, _⟩ := H.slice (by omega)
  have c0 := H.cell0
  rw [hv] at c0
  have c2 := H.at_node hv hx (k := 2) (by omega) rfl
  clear hv
  go_enter Tryz.func91, Tryz.ntmps91
  go_wp2
  go_ret
  exact ⟨ret_bool rfl, rfl⟩
theorem isFirst_any (h : Fsh) (i : Nat) (x : Nd × Value) (w : World) (H : Fs h w) (hx : h.X[i]? = some x) :
    Calls Tryz.prog 96 #[.pointer (some ⟨h.p, 0, none⟩), .int .i64 (i : Int)] w fun e w' => e = .returned (.bool (x.1.ino == 1)) ∧ w = w' := by
  have hi : i < h.X.length := (List.getElem?_eq_some_iff.1 hx).1
  obtain ⟨g, cap, hv, _, _⟩ := H.slice (by omega)
  have c0 := H.cell0
  rw [hv] at c0
  have c2 := H.at_node hv hx (k := 1) (by omega) rfl
  clear hv
  go_enter Tryz.func96, Tryz.ntmps96
  go_wp2
  go_ret
  exact ⟨ret_bool rfl, rfl⟩
theorem over_any (h : Fsh) (i : Nat) (x : Nd × Value) (w : World) (H : Fs h w) (hx : h.X[i]? = some x) :
    Calls Tryz.prog 45 #[.pointer (some ⟨h.p, 0, none⟩), .int .i64 (i : Int)] w fun e w' => e = .returned (.int .i64 x.1.over) ∧ w = w' := by
  have hi : i < h.X.length := (List.getElem?_eq_some_iff.1 hx).1
  obtain ⟨g, cap, hv, _, _⟩ := H.slice (by omega)
  have c0 := H.cell0
  rw [hv] at c0
  have c2 := H.at_node hv hx (k := 15) (by omega) rfl
  have hh := has_any h i w H (by omega)
  rw [show hasB h (i : Int) = true from by simp [hasB, hi]] at hh
  clear hv
  go_enter Tryz.func45, Tryz.ntmps45
  go_wp2_with (refine hh.mono ?_; rintro e w2 ⟨rfl, hw⟩; subst hw)
  go_ret
  exact ⟨rfl, rfl⟩
theorem over_no (h : Fsh) (i : Int) (w : World) (H : Fs h w) (hn : 0 < h.X.length) (hi : hasB h i = false) :
    Calls Tryz.prog 45 #[.pointer (some ⟨h.p, 0, none⟩), .int .i64 i] w fun e w' => e = .returned (.int .i64 i) ∧ w = w' := by
  have hh := has_any h i w H hn
  rw [hi] at hh
  go_enter Tryz.func45, Tryz.ntmps45
  go_wp2_with (refine hh.mono ?_; rintro e w2 ⟨rfl, hw⟩; subst hw)
  go_ret
  exact ⟨rfl, rfl⟩
end Go.Proofs.YtfhagjnlliafiaaGreatDoor.V
namespace Go.Proofs.YtfhagjnlliafiaaGreatDoor.V
open Go.RowKit
theorem and_mode (n : Int) : bits .and .i64 n 4095 = n % 4096 := by
  have h127 : (BitVec.ofInt 64 4095).toNat = 2 ^ 12 - 1 := by decide
  have key : (BitVec.ofInt 64 n &&& BitVec.ofInt 64 4095).toNat = (n % ((2 ^ 64 : Nat) : Int)).toNat % 2 ^ 12 := by
    rw [BitVec.toNat_and, BitVec.toNat_ofInt, h127, Nat.and_two_pow_sub_one_eq_mod]
  show IntKind.i64.wrap ((BitVec.ofInt 64 n &&& BitVec.ofInt 64 4095).toNat : Nat) = n % 4096
  rw [key, IntKind.wrap_i64]
  omega
def dirNd (mode up : Int) : Nd := { dev := 0, ino := 0, kind := 2, mode := mode, uid := 0, gid := 0, size := 4096, blocks := 8, links := 2, t0 := 0, t1 := 0, t2 := 0, target := ⟨#[]⟩, dead := false, up := up, over := 0, ents := [] }
def fileNd (mode size blocks : Int) : Nd := { dev := 0, ino := 0, kind := 1, mode := mode, uid := 0, gid := 0, size := size, blocks := blocks, links := 0, t0 := 0, t1 := 0, t2 := 0, target := ⟨#[]⟩, dead := false, up := -1, over := 0, ents := [] }
def linkNd (text : ByteArray) : Nd := { dev := 0, ino := 0, kind := 3, mode := 511, uid := 0, gid := 0, size := (text.size : Int), blocks := 0, links := 0, t0 := 0, t1 := 0, t2 := 0, target := text, dead := false, up := -1, over := 0, ents := [] }
def aggOf (n : Nd) : Value := .agg (n.cells (.slice none 0 0)).toArray
def blkOf (n : Int) : Int := 8 * (n / 4096 + if 0 < n % 4096 then 1 else 0)
theorem sizeNode : (Tryz.prog.info? 87).map (·.size) = some 17 := by kernel_rfl
theorem sizeKnown : (Tryz.prog.info? 63).map (·.size) = some 13 := by kernel_rfl
theorem directory_any (m u : Int) (w : World) :
    Calls Tryz.prog 35 #[.int .i64 m, .int .i64 u] w fun e w' => e = .returned (aggOf (dirNd (m % 4096) u)) ∧ Below w.heap.size w w' := by
  rw [← and_mode m]
  go_enter Tryz.func35, Tryz.ntmps35
  go_wp2
  refine bodyPost_ret (v := aggOf (dirNd (bits .and .i64 m 4095) u)) ?_ rfl ⟨rfl, ((Below.refl _ _).alloc (Nat.le_refl _) _).alloc (by simp) _⟩
  exact results_cell_row Tryz.results35 _ _ w.heap.size _ _ _ _ rfl (heap_alloc2_old _ _ _) Tryz.underlying87 rfl sizeNode
theorem link_any (s : ByteArray) (w : World) :
    Calls Tryz.prog 66 #[.string s] w fun e w' => e = .returned (aggOf (linkNd s)) ∧ Below w.heap.size w w' := by
  go_enter Tryz.func66, Tryz.ntmps66
  go_wp2
  refine bodyPost_ret (v := aggOf (linkNd s)) ?_ rfl ⟨rfl, ((Below.refl _ _).alloc (Nat.le_refl _) _)⟩
  exact results_cell_row Tryz.results66 _ _ w.heap.size _ _ _ _ rfl (heap_alloc_new _ _) Tryz.underlying87 rfl sizeNode
theorem quo_rem (n p : Int) (h : 0 ≤ n) : Int.tdiv n p = n / p ∧ Int.tmod n p = n % p := ⟨Int.tdiv_eq_ediv_of_nonneg h, Int.tmod_eq_emod_of_nonneg h⟩
theorem file_any (m n : Int) (w : World) (h0 : 0 ≤ n) (h1 : n ≤ 9223372036854775807) :
    Calls Tryz.prog 64 #[.int .i64 m, .int .i64 n] w fun e w' => e = .returned (aggOf (fileNd (m % 4096) n (blkOf n))) ∧ Below w.heap.size w w' := by
  rw [← and_mode m]
  obtain ⟨q, hq, q0, q1⟩ : ∃ q, Int.tdiv n 4096 = q ∧ 0 ≤ q ∧ q ≤ 2251799813685247 := ⟨_, rfl, by rw [(quo_rem n 4096 h0).1]; omega, by rw [(quo_rem n 4096 h0).1]; omega⟩
  obtain ⟨r, hr, r0, r1⟩ : ∃ r, Int.tmod n 4096 = r ∧ 0 ≤ r ∧ r < 4096 := ⟨_, rfl, by rw [(quo_rem n 4096 h0).2]; omega, by rw [(quo_rem n 4096 h0).2]; omega⟩
  have HB := Lib.hid (show blkOf n = 8 * (q + if 0 < r then 1 else 0) from by rw [blkOf, ← hq, ← hr, (quo_rem n 4096 h0).1, (quo_rem n 4096 h0).2])
  clear h0 h1
  by_cases hp : 0 < r
  · go_enter Tryz.func64, Tryz.ntmps64
    go_wp2
    refine bodyPost_ret (v := aggOf (fileNd (bits .and .i64 m 4095) n (8 * (q + 1)))) ?_ rfl ⟨by rw [HB.out, if_pos hp], ((Below.refl _ _).alloc (Nat.le_refl _) _)⟩
    exact results_cell_row Tryz.results64 _ _ w.heap.size _ _ _ _ rfl (heap_alloc_new _ _) Tryz.underlying87 rfl sizeNode
  · go_enter Tryz.func64, Tryz.ntmps64
    go_wp2
    refine bodyPost_ret (v := aggOf (fileNd (bits .and .i64 m 4095) n (8 * q))) ?_ rfl ⟨by rw [HB.out, if_neg (by omega), Int.add_zero], ((Below.refl _ _).alloc (Nat.le_refl _) _)⟩
    exact results_cell_row Tryz.results64 _ _ w.heap.size _ _ _ _ rfl (heap_alloc_new _ _) Tryz.underlying87 rfl sizeNode
end Go.Proofs.YtfhagjnlliafiaaGreatDoor.V
namespace Go.Proofs.YtfhagjnlliafiaaGreatDoor.V
open Go.RowKit
theorem size_setCell (w : World) (a : Addr) (u : Value) : (w.setCell a u).heap.size = w.heap.size := by simp [World.setCell]
theorem own_some {g n c : Nat} : (Value.slice (some ⟨g, 0, none⟩) n c).ownBlock = some g := rfl
theorem Fs.apart' {h : Fsh} {w : World} (H : Fs h w) {i j : Nat} (hij : i ≠ j) {x y : Nd × Value} (hx : h.X[i]? = some x) (hy : h.X[j]? = some y) : x.2.ownBlock = none ∨ x.2.ownBlock ≠ y.2.ownBlock := by
  rcases Nat.lt_or_gt_of_ne hij with q | q
  · exact H.apart i j q x y hx hy
  · rcases H.apart j i q y x hy hx with e | e
    · cases hx2 : x.2.ownBlock with
      | none => exact .inl rfl
      | some k => exact .inr (by rw [e]; simp)
    · exact .inr (fun q => e q.symm)
theorem Fs.push {h : Fsh} {w w1 : World} (H : Fs h w) {n : Nd} (hn : n.ents = []) {g cap : Nat} (ho : w1.ownsRow 0 87 17 (.slice (some ⟨g, 0, none⟩) (h.X.length + 1) cap) (h.X.length + 1) (flat h.X ++ n.cells (.slice none 0 0)))
    (hg : w.grownBy w1 h.v.ownBlock) (hat : h.v.ownBlock = some g ∨ g = w.heap.size) :
    Fs ⟨h.p, .slice (some ⟨g, 0, none⟩) (h.X.length + 1) cap, h.X ++ [(n, .slice none 0 0)]⟩ (w1.setCell ⟨h.p, 0, none⟩ (.slice (some ⟨g, 0, none⟩) (h.X.length + 1) cap)) ∧
    Grew h ⟨h.p, .slice (some ⟨g, 0, none⟩) (h.X.length + 1) cap, h.X ++ [(n, .slice none 0 0)]⟩ w (w1.setCell ⟨h.p, 0, none⟩ (.slice (some ⟨g, 0, none⟩) (h.X.length + 1) cap)) := by
  have hp : h.p < w.heap.size := H.lt (.inl rfl)
  have hpv : some h.p ≠ h.v.ownBlock := fun e => H.p_ne e.symm rfl
  have hgp : g ≠ h.p := by
    rcases hat with e | e
    · exact H.p_ne e
    · omega
  have hhead : w1.heap[h.p]? = some (.cells #[h.v] 84 (0, 0)) := (hg.block h.p hp hpv).trans H.head
  refine ⟨⟨?_, ?_, ?_, ?_⟩, ⟨hg.os, hg.tape, hg.output, ?_, ?_, ?_⟩⟩
  · exact heap_setCell_same w1 h.p 0 _ _ _ hhead
  · show World.ownsRow _ _ _ _ _ (h.X ++ [(n, Value.slice none 0 0)]).length _
    rw [List.length_append, flat_append, flat_one]
    refine owns_at ho fun k hk => heap_setCell_other _ _ _ _ ?_
    rw [own_some, Option.some.injEq] at hk
    subst hk
    exact hgp
  · intro x hx
    rcases List.mem_append.1 hx with q | q
    · refine owns_at (H.ents x q) fun k hk => ?_
      rw [heap_setCell_other _ _ _ _ (show k ≠ h.p from H.p_ne_ent q hk)]
      exact hg.block k (H.lt (.inr (.inr ⟨x, q, hk⟩))) (fun e => H.v_ne_ent q hk e.symm rfl)
    · obtain rfl : x = (n, .slice none 0 0) := by simpa using q
      show World.ownsRow _ _ _ _ (.slice none 0 0) n.ents.length (entCells n.ents)
      rw [hn]
      exact World.ownsRow_nil _ _ _ _
  · intro i j hij x y hx hy
    rw [List.getElem?_append] at hx hy
    have key : ∀ (c : Nat) (z : Nd × Value), (if c < h.X.length then h.X[c]? else [(n, Value.slice none 0 0)][c - h.X.length]?) = some z → h.X[c]? = some z ∨ z.2.ownBlock = none := by
      intro c z hz
      split at hz
      · exact .inl hz
      · rcases Nat.eq_zero_or_pos (c - h.X.length) with e | e
        · rw [e] at hz
          simp at hz
          subst hz
          exact .inr rfl
        · rw [List.getElem?_eq_none (by simp; omega)] at hz
          cases hz
    rcases key i x hx with a | a
    · rcases key j y hy with b | b
      · exact H.apart i j hij x y a b
      · cases e : x.2.ownBlock with
        | none => exact .inl rfl
        | some k => exact .inr (by rw [b]; simp)
    · exact .inl a
  · rw [size_setCell]; exact hg.size
  · intro k hk hn'
    rw [heap_setCell_other _ _ _ _ (fun e => hn' (.inl e))]
    exact hg.block k hk (fun e => hn' (.inr (.inl e.symm)))
  · intro k hk
    rcases hk with e | e | ⟨x, hx, e⟩
    · exact .inl (.inl e)
    · rw [own_some, Option.some.injEq] at e
      subst e
      rcases hat with q | q
      · exact .inl (.inr (.inl q))
      · exact .inr (by omega)
    · rcases List.mem_append.1 hx with q | q
      · exact .inl (.inr (.inr ⟨x, q, e⟩))
      · obtain rfl : x = (n, .slice none 0 0) := by simpa using q
        cases e
theorem Fs.enter {h : Fsh} {w w1 : World} (H : Fs h w) {G C : Nat} (hv : h.v = .slice (some ⟨G, 0, none⟩) h.X.length C) {i : Nat} {n : Nd} {ev : Value} (hx : h.X[i]? = some (n, ev)) {s : ByteArray} {id : Int} {g cap : Nat}
    (ho : w1.ownsRow 0 46 2 (.slice (some ⟨g, 0, none⟩) (n.ents.length + 1) cap) (n.ents.length + 1) (entCells n.ents ++ [.string s, .int .i64 id]))
    (hg : w.grownBy w1 ev.ownBlock) (hat : ev.ownBlock = some g ∨ g = w.heap.size) :
    Fs ⟨h.p, h.v, h.X.set i ({ n with ents := n.ents ++ [(s, id)] }, .slice (some ⟨g, 0, none⟩) (n.ents.length + 1) cap)⟩ (w1.setCell ⟨G, i * 17 + 16, none⟩ (.slice (some ⟨g, 0, none⟩) (n.ents.length + 1) cap)) ∧
    Grew h ⟨h.p, h.v, h.X.set i ({ n with ents := n.ents ++ [(s, id)] }, .slice (some ⟨g, 0, none⟩) (n.ents.length + 1) cap)⟩ w (w1.setCell ⟨G, i * 17 + 16, none⟩ (.slice (some ⟨g, 0, none⟩) (n.ents.length + 1) cap)) := by
  have hi : i < h.X.length := (List.getElem?_eq_some_iff.1 hx).1
  have hmem : (n, ev) ∈ h.X := List.mem_of_getElem? hx
  have hvo : h.v.ownBlock = some G := by rw [hv]; rfl
  have hG : G < w.heap.size := H.lt (.inr (.inl hvo))
  have hgp : g ≠ h.p := by
    rcases hat with e | e
    · exact H.p_ne_ent hmem e
    · have := H.lt (.inl (rfl : h.p = h.p)); omega
  have hgG : g ≠ G := by
    rcases hat with e | e
    · exact H.v_ne_ent hmem e hvo
    · omega
  have hother : ∀ j x, j ≠ i → h.X[j]? = some x → ∀ k, x.2.ownBlock = some k → k ≠ g ∧ some k ≠ ev.ownBlock ∧ k ≠ G := by
    intro j x hj hxj k hk
    have hkl := H.lt (.inr (.inr ⟨x, List.mem_of_getElem? hxj, hk⟩))
    have := H.apart' hj hxj hx
    rw [hk] at this
    have h2 : some k ≠ ev.ownBlock := by
      rcases this with e | e
      · cases e
      · exact e
    refine ⟨?_, h2, H.v_ne_ent (List.mem_of_getElem? hxj) hk hvo⟩
    rcases hat with e | e
    · rw [e] at h2
      exact fun q => h2 (by rw [q])
    · omega
  have hset : ∀ (c : Nat) (z : Nd × Value), (h.X.set i ({ n with ents := n.ents ++ [(s, id)] }, Value.slice (some ⟨g, 0, none⟩) (n.ents.length + 1) cap))[c]? = some z → (c = i ∧ z = ({ n with ents := n.ents ++ [(s, id)] }, Value.slice (some ⟨g, 0, none⟩) (n.ents.length + 1) cap)) ∨ (c ≠ i ∧ h.X[c]? = some z) := by
    intro c z hz
    rw [List.getElem?_set] at hz
    split at hz
    · rename_i e
      subst e
      simp at hz
      exact .inl ⟨rfl, hz.symm⟩
    · rename_i e
      exact .inr ⟨fun q => e q.symm, hz⟩
  refine ⟨⟨?_, ?_, ?_, ?_⟩, ⟨hg.os, hg.tape, hg.output, ?_, ?_, ?_⟩⟩
  · rw [heap_setCell_other _ _ _ _ (show h.p ≠ G from fun e => H.p_ne hvo e.symm)]
    exact (hg.block h.p (H.lt (.inl rfl)) (fun e => H.p_ne_ent hmem e.symm rfl)).trans H.head
  · have h1 : w1.ownsRow 0 87 17 h.v h.X.length (flat h.X) := owns_at H.own fun k hk => by
      rw [hvo, Option.some.injEq] at hk
      subst hk
      exact hg.block _ hG (fun e => H.v_ne_ent hmem e.symm hvo rfl)
    rw [hv] at h1
    have := owns_setCell h1 (j := i * 17 + 16) (by rw [flat_len]; omega) (.slice (some ⟨g, 0, none⟩) (n.ents.length + 1) cap)
    rw [flat_set h.X i 16 (n, ev) ({ n with ents := n.ents ++ [(s, id)] }, .slice (some ⟨g, 0, none⟩) (n.ents.length + 1) cap) _ hx (by omega) rfl] at this
    show World.ownsRow _ _ _ _ h.v (h.X.set i _).length _
    rw [List.length_set, hv]
    exact this
  · intro x hx'
    obtain ⟨c, hc⟩ := List.mem_iff_getElem?.1 hx'
    rcases hset c x hc with ⟨rfl, rfl⟩ | ⟨hci, hcx⟩
    · show World.ownsRow _ _ _ _ (.slice (some ⟨g, 0, none⟩) (n.ents.length + 1) cap) (n.ents ++ [(s, id)]).length (entCells (n.ents ++ [(s, id)]))
      rw [List.length_append, entCells_append]
      refine owns_at ho fun k hk => heap_setCell_other _ _ _ _ ?_
      rw [own_some, Option.some.injEq] at hk
      subst hk
      exact hgG
    · refine owns_at (H.ents x (List.mem_of_getElem? hcx)) fun k hk => ?_
      obtain ⟨q1, q2, q3⟩ := hother c x hci hcx k hk
      rw [heap_setCell_other _ _ _ _ (show k ≠ G from q3)]
      exact hg.block k (H.lt (.inr (.inr ⟨x, List.mem_of_getElem? hcx, hk⟩))) q2
  · intro a b hab x y hxa hyb
    rcases hset a x hxa with ⟨rfl, rfl⟩ | ⟨ha, hxa'⟩
    · rcases hset b y hyb with ⟨rfl, rfl⟩ | ⟨hb, hyb'⟩
      · omega
      · right
        show some g ≠ y.2.ownBlock
        intro e
        exact (hother b y hb hyb' g e.symm).1 rfl
    · rcases hset b y hyb with ⟨rfl, rfl⟩ | ⟨hb, hyb'⟩
      · cases e : x.2.ownBlock with
        | none => exact .inl rfl
        | some k =>
          right
          show some k ≠ some g
          exact fun q => (hother a x ha hxa' k e).1 (Option.some.inj q)
      · exact H.apart a b hab x y hxa' hyb'
  · rw [size_setCell]; exact hg.size
  · intro k hk hn'
    rw [heap_setCell_other _ _ _ _ (show k ≠ G from fun e => hn' (.inr (.inl (by rw [hvo, e]))))]
    exact hg.block k hk (fun e => hn' (.inr (.inr ⟨_, hmem, e.symm⟩)))
  · intro k hk
    rcases hk with e | e | ⟨x, hx', e⟩
    · exact .inl (.inl e)
    · exact .inl (.inr (.inl e))
    · obtain ⟨c, hc⟩ := List.mem_iff_getElem?.1 hx'
      rcases hset c x hc with ⟨rfl, rfl⟩ | ⟨hci, hcx⟩
      · have e' : g = k := by simpa [Value.ownBlock] using e
        subst e'
        rcases hat with q | q
        · exact .inl (.inr (.inr ⟨_, hmem, q⟩))
        · exact .inr (by omega)
      · exact .inl (.inr (.inr ⟨x, List.mem_of_getElem? hcx, e⟩))
end Go.Proofs.YtfhagjnlliafiaaGreatDoor.V
namespace Go.Proofs.YtfhagjnlliafiaaGreatDoor.V
open Go.RowKit
def cntD (d : Int) : List Nd → Int
  | [] => 0
  | n :: r => (if n.dev = d then 1 else 0) + cntD d r
theorem cntD_append (d : Int) : ∀ a b, cntD d (a ++ b) = cntD d a + cntD d b
  | [], b => by simp [cntD]
  | x :: r, b => by rw [List.cons_append, cntD, cntD, cntD_append d r b]; omega
theorem cntD_bd (d : Int) : ∀ a : List Nd, 0 ≤ cntD d a ∧ cntD d a ≤ (a.length : Int)
  | [] => by simp [cntD]
  | x :: r => by have := cntD_bd d r; rw [cntD, List.length_cons]; split <;> omega
def cntX (d : Int) (X : List (Nd × Value)) (k : Nat) : Int := cntD d ((X.take k).map Prod.fst)
theorem cntX_next {d : Int} {X : List (Nd × Value)} {k : Nat} {x : Nd × Value} (h : X[k]? = some x) : cntX d X (k + 1) = cntX d X k + if x.1.dev = d then 1 else 0 := by
  unfold cntX
  rw [List.take_add_one, h, List.map_append, cntD_append]
  simp [cntD]
def addedNd (n : Nd) (d : Int) (M : List Nd) : Nd := { n with dev := d, ino := 1 + cntD d M, over := (M.length : Int) }
theorem infoNode : (Tryz.prog.info? 87).map (fun i => (i.zero, i.size, i.bytes)) = some (some (.agg (Nd.cells { dev := 0, ino := 0, kind := 0, mode := 0, uid := 0, gid := 0, size := 0, blocks := 0, links := 0, t0 := 0, t1 := 0, t2 := 0, target := ⟨#[]⟩, dead := false, up := 0, over := 0, ents := [] } (.slice none 0 0)).toArray), 17, 160) := by kernel_rfl
def AddRel (h : Fsh) (n : Nd) (d : Int) (w : World) (v : Value) (wr : World) : Prop :=
  ∃ k : Nat, k ≤ h.X.length ∧ v = .int .i64 (k : Int) ∧ Below w.heap.size w wr ∧ wr.heap[w.heap.size]? = some (.cells (Nd.cells { n with dev := d, ino := 1 + cntX d h.X k } (.slice none 0 0)).toArray 87 (0, 0))
theorem addRel_same {h : Fsh} {n : Nd} {d : Int} {w wr : World} {k : Nat} {x : Nd × Value} (hk : k < h.X.length) (hx : h.X[k]? = some x) (hb : Below w.heap.size w wr)
    (hbox : wr.heap[w.heap.size]? = some (.cells (Nd.cells { n with dev := d, ino := 1 + cntX d h.X k } (.slice none 0 0)).toArray 87 (0, 0))) (hd : (x.1.dev == d) = false) (c : Array Value) (T : TypeId) :
    AddRel h n d w (.int .i64 ((k : Int) + 1)) (wr.alloc (.cells c T)) := by
  have hlt := heap_lt hbox
  refine ⟨k + 1, by omega, rfl, hb.alloc (by omega) _, ?_⟩
  rw [heap_alloc_old _ _ hlt, hbox, cntX_next hx, if_neg (by simpa using hd), Int.add_zero]
theorem addRel_more {h : Fsh} {n : Nd} {d : Int} {w wr : World} {k : Nat} {x : Nd × Value} {u : Int} (hk : k < h.X.length) (hx : h.X[k]? = some x) (hb : Below w.heap.size w wr)
    (hbox : wr.heap[w.heap.size]? = some (.cells (Nd.cells { n with dev := d, ino := 1 + cntX d h.X k } (.slice none 0 0)).toArray 87 (0, 0))) (hd : (x.1.dev == d) = true) (hu : cntX d h.X k = u) (c : Array Value) (T : TypeId) :
    AddRel h n d w (.int .i64 ((k : Int) + 1)) ((wr.setCell ⟨w.heap.size, 1, none⟩ (.int .i64 (1 + u + 1))).alloc (.cells c T)) := by
  have hlt := heap_lt hbox
  subst hu
  refine ⟨k + 1, by omega, rfl, (hb.setCell (Nat.le_refl _) _).alloc (by rw [size_setCell]; omega) _, ?_⟩
  rw [heap_alloc_old _ _ (by rw [size_setCell]; exact hlt), heap_setCell_same _ _ _ _ _ _ hbox, cntX_next hx, if_pos (by simpa using hd)]
  show some (Obj.cells (Array.setIfInBounds _ 1 _) _ _) = _
  rw [show 1 + cntX d h.X k + 1 = 1 + (cntX d h.X k + 1) by omega]
  rfl
theorem nc_one (x : Nd) (ev : Value) (hev : ev.oneCell' = true) : ∀ u ∈ x.cells ev, u.oneCell' = true := by
  intro u hu
  simp only [Nd.cells, List.mem_cons, List.mem_nil_iff, or_false] at hu
  rcases hu with rfl | rfl | rfl | rfl | rfl | rfl | rfl | rfl | rfl | rfl | rfl | rfl | rfl | rfl | rfl | rfl | rfl
  all_goals first | rfl | exact hev
theorem add_end {h : Fsh} {n' : Nd} {w w9 w1 : World} {ao : Option Addr} {cap g cap1 : Nat} {o : Obj} (H9 : Fs h w9) (hv : h.v = .slice ao h.X.length cap) (B9 : Below w.heap.size w w9) (hn : n'.ents = [])
    (ho : w1.ownsRow 0 87 17 (.slice (some ⟨g, 0, none⟩) (h.X.length + 1) cap1) (h.X.length + 1) (flat h.X ++ n'.cells (.slice none 0 0)))
    (hg : (w9.drew.alloc o).grownBy w1 (Value.slice ao h.X.length cap).ownBlock) (hat : (Value.slice ao h.X.length cap).ownBlock = some g ∨ g = (w9.drew.alloc o).heap.size) (hB : w.heap.size ≤ w9.heap.size) :
    ∃ v', Fs ⟨h.p, v', h.X ++ [(n', .slice none 0 0)]⟩ (w1.setCell ⟨h.p, 0, none⟩ (.slice (some ⟨g, 0, none⟩) (h.X.length + 1) cap1)) ∧ Grew h ⟨h.p, v', h.X ++ [(n', .slice none 0 0)]⟩ w (w1.setCell ⟨h.p, 0, none⟩ (.slice (some ⟨g, 0, none⟩) (h.X.length + 1) cap1)) := by
  rw [← hv] at hg hat
  have HA : Fs h (w9.drew.alloc o) := H9.at fun k hk => heap_alloc_old _ _ (by exact H9.lt hk)
  obtain ⟨r1, r2⟩ := HA.push hn ho hg hat
  exact ⟨_, r1, (Grew.of_below (B9.drew.alloc hB o)).trans r2⟩
theorem add_any (h : Fsh) (n : Nd) (d : Int) (w : World) (H : Fs h w) (hn : n.ents = []) (hX : h.X.length ≤ 1000000) :
    Calls Tryz.prog 34 #[.pointer (some ⟨h.p, 0, none⟩), .int .i64 d, aggOf n] w fun e w' => e = .returned (.int .i64 (h.X.length : Int)) ∧
      ∃ v', Fs ⟨h.p, v', h.X ++ [(addedNd n d h.M, .slice none 0 0)]⟩ w' ∧ Grew h ⟨h.p, v', h.X ++ [(addedNd n d h.M, .slice none 0 0)]⟩ w w' := by
  have hp : h.p < w.heap.size := H.lt (.inl rfl)
  have c0 := H.cell0
  have c0a : ∀ o, (w.alloc o).cell? ⟨h.p, 0, none⟩ = some h.v := fun o => (World.cell?_alloc_past _ _ _ hp).trans c0
  obtain ⟨ao, cap, hv⟩ : ∃ ao cap, h.v = .slice ao h.X.length cap := by
    rcases H.own.2 with ⟨e, e2⟩ | ⟨g, cap, cur, e, _⟩
    · exact ⟨none, 0, by rw [e, e2]⟩
    · exact ⟨_, cap, e⟩
  rw [hv] at c0 c0a
  unfold aggOf
  have k0 : ∀ ev, (n.cells ev)[0]? = some (.int .i64 n.dev) := fun _ => rfl
  have k1 : ∀ ev, (n.cells ev)[1]? = some (.int .i64 n.ino) := fun _ => rfl
  go_enter Tryz.func34, Tryz.ntmps34
  go_wp2
  clear c0a k0 k1
  go_loopw [25] (AddRel h n d w) (fun v _ => h.X.length - (intOf v).toNat)
  case atStart => exact ⟨0, Nat.zero_le _, rfl, (Below.refl _ _).alloc (Nat.le_refl _) _, heap_alloc_new _ _⟩
  case round =>
    obtain ⟨k, hk, rfl, hb, hbox⟩ := hrel
    have HB := Lib.hid hb
    have HBox := Lib.hid hbox
    have HH := Lib.hid (H.keep hb)
    have hsz := hb.size
    have hwp : w.heap.size < wr.heap.size := heap_lt hbox
    have bd := cntD_bd d ((h.X.take k).map Prod.fst)
    rw [List.length_map, List.length_take] at bd
    have HC := Lib.hid (show cntX d h.X k = cntD d ((h.X.take k).map Prod.fst) from rfl)
    obtain ⟨c, hc⟩ : ∃ c, cntX d h.X k = c := ⟨_, rfl⟩
    rw [hc] at hbox
    have hc0 : 0 ≤ c := by rw [← hc]; exact bd.1
    have hc1 : c ≤ 1000000 := by rw [← hc]; have := bd.2; unfold cntX; omega
    have HC := Lib.hid hc
    clear hc bd hb
    by_cases hlt : k < h.X.length
    · obtain ⟨g, cap', hv', _, _⟩ := HH.out.slice (by omega)
      obtain ⟨rfl, rfl⟩ : ao = some ⟨g, 0, none⟩ ∧ cap' = cap := by
        rw [hv] at hv'
        simp only [Value.slice.injEq, true_and] at hv'
        exact ⟨hv'.1, hv'.2.symm⟩
      obtain ⟨x, hx⟩ : ∃ x, h.X[k]? = some x := ⟨_, List.getElem?_eq_getElem hlt⟩
      have HX := Lib.hid hx
      have hload := Lib.hid (show wr.rangeAt g (k * 17) (nc x) from fun j v hj => HH.out.at_node hv hx (show j < 17 from by have := (List.getElem?_eq_some_iff.1 hj).1; rwa [nc_len] at this) hj)
      have hev := Lib.hid (show (nc x).toArray.all (·.oneCell') = true from all_oneCell_toArray (fun u hu => nc_one x.1 x.2 (HH.out.ev_one hx) u hu))
      have kx : (nc x)[0]? = some (.int .i64 x.1.dev) := rfl
      have b1 : ∀ o, (wr.alloc o).cell? ⟨w.heap.size, 1, none⟩ = some (.int .i64 (1 + c)) := fun o => by rw [World.cell?_alloc_past _ _ _ hwp, cell_of_row _ _ _ _ _ _ hbox]; rfl
      have f1 : ∀ o, (wr.alloc o).frozen? ⟨w.heap.size, 1, none⟩ = false := fun o => by rw [World.frozen?_alloc_past _ _ _ hwp]; exact frozen_of_row _ _ _ _ _ hbox
      clear hx hbox
      go_wp2_with (first
        | (refine wpList_load_mid rfl 87 (.tmp 27) rfl g (k * 17) rfl (nc x) _ hload.out Tryz.underlying87 rfl sizeNode ?_)
        | (refine wpList_store_row rfl 87 (.tmp 9) (.tmp 28) rfl wr.heap.size (nc x).toArray rfl rfl _ _ (heap_alloc_new _ _) (by rw [sizeNode]; rfl) rfl hev.out ?_; rw [World.setRow_alloc_new]))
      · have hd : (x.1.dev == d) = true := by assumption
        have R := Lib.hid (addRel_more hlt HX.out HB.out HBox.out hd HC.out (nc x).toArray 87)
        go_roundw
        case rel => exact R.out
        case measure => simp [intOf]; omega
      · have hd : (x.1.dev == d) = false := by assumption
        have R := Lib.hid (addRel_same hlt HX.out HB.out HBox.out hd (nc x).toArray 87)
        go_roundw
        case rel => exact R.out
        case measure => simp [intOf]; omega
    · have hke : k = h.X.length := by omega
      have o15 : wr.cell? ⟨w.heap.size, 15, none⟩ = some (.int .i64 n.over) := by rw [cell_of_row _ _ _ _ _ _ hbox]; rfl
      have f15 : wr.frozen? ⟨w.heap.size, 15, none⟩ = false := frozen_of_row _ _ _ _ _ hbox
      clear hbox
      go_wp2
      generalize hw9 : wr.setCell ⟨w.heap.size, 15, none⟩ (.int .i64 (h.X.length : Int)) = w9
      have hbox9 : w9.heap[w.heap.size]? = some (.cells (Nd.cells (addedNd n d h.M) (.slice none 0 0)).toArray 87 (0, 0)) := by
        rw [← hw9, heap_setCell_same _ _ _ _ _ _ HBox.out]
        have e : cntX d h.X k = cntD d h.M := by rw [hke]; unfold cntX Fsh.M; rw [List.take_length]
        rw [e]
        unfold addedNd Fsh.M
        rw [List.length_map]
        rfl
      have H9 : Fs h w9 := H.at fun j hj => by
        have := H.lt hj
        rw [← hw9, heap_setCell_other _ _ _ _ (by show j ≠ w.heap.size; omega)]
        exact HB.out.block j this
      have B9 := Lib.hid (show Below w.heap.size w w9 from by rw [← hw9]; exact HB.out.setCell (Nat.le_refl _) _)
      have c9 := H9.cell0
      have f9 := H9.frozen0
      rw [hv] at c9
      have hp9 : h.p < w9.heap.size := H9.lt (.inl rfl)
      have hq9 : w.heap.size < w9.heap.size := heap_lt hbox9
      have c9a : ∀ o, (w9.alloc o).cell? ⟨h.p, 0, none⟩ = some (.slice ao h.X.length cap) := fun o => (World.cell?_alloc_past _ _ _ hp9).trans c9
      have bx : ∀ j u, (Nd.cells (addedNd n d h.M) (.slice none 0 0))[j]? = some u → w9.cell? ⟨w.heap.size, j, none⟩ = some u := fun j u hu => by rw [cell_of_row _ _ _ _ _ _ hbox9]; simpa using hu
      have HH9 := Lib.hid H9
      obtain ⟨i0, hi, hz0, hz1, hz2⟩ := info_parts infoNode
      have hown := Lib.hid H9.own
      rw [hv] at hown
      have hn' : (addedNd n d h.M).ents = [] := hn
      generalize hne' : addedNd n d h.M = n' at *
      have HE := Lib.hid hne'
      have HN := Lib.hid hn'
      have HV := Lib.hid hv
      have HNE := Lib.hid (show some h.p ≠ (Value.slice ao h.X.length cap).ownBlock from by rw [← hv]; exact fun e => HH9.out.p_ne e.symm rfl)
      have c9b := Lib.hid (show ∀ o, (w9.drew.alloc o).cell? ⟨h.p, 0, none⟩ = some (.slice ao h.X.length cap) from fun o => (World.cell?_alloc_past _ _ _ (by exact hp9)).trans c9)
      have f9b := Lib.hid (show ∀ o, (w9.drew.alloc o).frozen? ⟨h.p, 0, none⟩ = false from fun o => (World.frozen?_alloc_past _ _ _ (by exact hp9)).trans f9)
      have hlt9 := Lib.hid (show ∀ o, h.p < (w9.drew.alloc o).heap.size from fun o => by simp; omega)
      clear hn' hv hne'
      have b0 := bx 0 _ rfl
      have b1 := bx 1 _ rfl
      have b2 := bx 2 _ rfl
      have b3 := bx 3 _ rfl
      have b4 := bx 4 _ rfl
      have b5 := bx 5 _ rfl
      have b6 := bx 6 _ rfl
      have b7 := bx 7 _ rfl
      have b8 := bx 8 _ rfl
      have b9 := bx 9 _ rfl
      have b10 := bx 10 _ rfl
      have b11 := bx 11 _ rfl
      have b12 := bx 12 _ rfl
      have b13 := bx 13 _ rfl
      have b14 := bx 14 _ rfl
      have b15 := bx 15 _ rfl
      have b16 := bx 16 _ rfl
      clear bx o15 f15 hw9 hbox9 H9 HBox HB HH HC
      go_region_law (refine step_append_lies _ rfl (.tmp 47) (.tmp 49) 82 rfl 0 87 i0 _ 17 160 Tryz.underlying82 hi hz0 hz1 hz2 rfl (by decide) (.slice ao h.X.length cap) h.X.length (flat h.X) (by simp [Act.eval]) (hown.out.alloc _) ⟨w9.heap.size, 0, none⟩ 1 1 (Nd.cells n' (.slice none 0 0)) (by simp [Act.eval]) rfl (World.news_of_block (heap_alloc_new _ _)) (nc_one _ _ rfl) (by decide) (by unfold maxLen; omega) (by omega) (Nat.zero_le _) _ rfl ?_; intro g cap1 w1 hown1 hgrow hat hlt1; have q1 := (hgrow.cell_far ⟨h.p, 0, none⟩ (hlt9.out _) HNE.out).trans (c9b.out _); have q2 := (hgrow.frozen_far ⟨h.p, 0, none⟩ (hlt9.out _) HNE.out).trans (f9b.out _); have R := Lib.hid (add_end HH9.out HV.out B9.out HN.out hown1 hgrow hat (by omega)); clear hown1 hgrow hat)
      all_goals go_wp2
      all_goals go_ret
      all_goals (rw [HE.out]; exact ⟨rfl, R.out⟩)
end Go.Proofs.YtfhagjnlliafiaaGreatDoor.V
