/-
  What FS.Do and New make: the model of a file system as a list of nodes, and that the program keeps it. Conditions: the file system is of at most 1000000 entries and links.
  What New makes; that the laws' own first question is answered. Conditions: none.
  Devices in the model: each device's nodes are numbered on, and its first is in the list of firsts. Conditions: none.
  What FS.Node returns. Conditions: the file system lies in memory.
  The reference's file system in memory: six slices that hold the model's nodes and a list of entries; what its small functions return. Conditions: each fact's own.
  append of a row that is there already, onto an own row, in whatever place of a walk; what two appends and a store into a box leave. Conditions: each fact's own.
-/
import Derived.Test.YtknfhphhcnbndaaGreatDoorKVCarry
import Derived.Deep.MidRow
import Derived.Laws.ResultCell
import Derived.Deep.QuietTactic
import Derived.BigQuiet
import Derived.Laws.AppendOwnNone
import Derived.Deep.RegionLaw
import Derived.Deep.CutRange
set_option linter.unusedSimpArgs false
set_option linter.unusedVariables false
namespace Go.Proofs.YtknfhphhcnbndaaGreatDoor.V
open Go.RowKit

/-- The node of that number, in a list of nodes. -/
def atM (M : List Nd) (i : Int) : Option Nd := if 0 ≤ i ∧ i < (M.length : Int) then M[i.toNat]? else none
/-- All is small: what the walks ask. -/
def Small (M : List Nd) (k : Nat) : Prop := M.length ≤ 300 ∧ ∀ n ∈ M, 0 ≤ n.links ∧ n.links ≤ 2 + (k : Int) ∧ n.ents.length ≤ k

theorem atM_some {M : List Nd} {i : Int} {n : Nd} (h : atM M i = some n) : ∃ k : Nat, i = (k : Int) ∧ M[k]? = some n := by
  unfold atM at h
  split at h
  · exact ⟨i.toNat, by omega, h⟩
  · cases h
theorem fs_at {h : Fsh} {k : Nat} {n : Nd} (hn : h.M[k]? = some n) : ∃ x, h.X[k]? = some x ∧ x.1 = n := by
  unfold Fsh.M at hn
  rw [List.getElem?_map] at hn
  exact Option.map_eq_some_iff.1 hn

end Go.Proofs.YtknfhphhcnbndaaGreatDoor.V

namespace Go.Proofs.YtknfhphhcnbndaaGreatDoor.V
open Go.RowKit

def newM : List Nd := [addedNd (dirNd 493 0) 1 []]
/-- A file system that was made behind w0, of the nodes M. -/
def Has (w0 : World) (p : Nat) (M : List Nd) (w : World) : Prop := ∃ h : Fsh, h.p = p ∧ h.M = M ∧ Fs h w ∧ Below w0.heap.size w0 w ∧ ∀ k, h.foot k → w0.heap.size ≤ k

theorem fs_new (w : World) : Fs ⟨w.heap.size, .slice none 0 0, []⟩ (w.alloc (.cells #[.slice none 0 0] 137)) :=
  ⟨heap_alloc_new _ _, World.ownsRow_nil _ _ _ _, fun x hx => (by cases hx), fun i j _ x y hx _ => (by simp at hx)⟩

set_option maxHeartbeats 1000000 in
theorem new_any (w : World) :
    Calls Tryz.prog 34 #[] w fun e w' => ∃ p, e = .returned (.pointer (some ⟨p, 0, none⟩)) ∧ Has w p newM w' := by
  have HA := Lib.hid (fun (w2 : World) (hb : Below (w.alloc (.cells #[.slice none 0 0] 137)).heap.size (w.alloc (.cells #[.slice none 0 0] 137)) w2) => add_any ⟨w.heap.size, .slice none 0 0, []⟩ (dirNd 493 0) 1 w2 ((fs_new w).keep hb) rfl (by simp))
  go_enter Tryz.func34, Tryz.ntmps34
  go_wp2_with (first
    | (go_at_call 78; refine (directory_any 493 0 _).mono ?_; rintro e w2 ⟨rfl, hb2⟩; have HB2 := Lib.hid hb2; clear hb2)
    | (go_at_call 77; refine (HA.out _ HB2.out).mono ?_; rintro e w3 ⟨rfl, v', H3, G3⟩; have R := Lib.hid (show Has w w.heap.size newM w3 from ⟨_, rfl, rfl, H3, (below_two ((Below.refl _ _).alloc (Nat.le_refl _) _) HB2.out).trans (G3.below (Nat.le_trans (by simp : w.heap.size ≤ (w.alloc (.cells #[.slice none 0 0] 137)).heap.size) HB2.out.size) (fun k hk => by rcases hk with q | q | ⟨x, hx, _⟩; exact Nat.le_of_eq q.symm; cases q; cases hx)), fun k hk => by rcases G3.new k hk with q | q; (rcases q with q | q | ⟨x, hx, _⟩; exact Nat.le_of_eq q.symm; cases q; cases hx); exact Nat.le_trans (Nat.le_trans (by simp : w.heap.size ≤ (w.alloc (.cells #[.slice none 0 0] 137)).heap.size) HB2.out.size) q⟩); clear H3 G3))
  go_ret
  exact ⟨_, rfl, R.out⟩

theorem Has.keep {w0 w w' : World} {p : Nat} {M : List Nd} (h : Has w0 p M w) (hb : Below w.heap.size w w') : Has w0 p M w' := by
  obtain ⟨h, h1, h2, H, hb0, hf⟩ := h
  exact ⟨h, h1, h2, H.keep hb, hb0.trans (hb.mono hb0.size), hf⟩
theorem Has.below {w0 w : World} {p : Nat} {M : List Nd} (h : Has w0 p M w) : Below w0.heap.size w0 w := by
  obtain ⟨h, h1, h2, H, hb0, hf⟩ := h
  exact hb0

theorem new_small : Small newM 0 := by
  refine ⟨by decide, fun n hn => ?_⟩
  obtain rfl : n = addedNd (dirNd 493 0) 1 [] := by simpa [newM] using hn
  exact ⟨by decide, by decide, by decide⟩
end Go.Proofs.YtknfhphhcnbndaaGreatDoor.V

namespace Go.Proofs.YtknfhphhcnbndaaGreatDoor.V
open Go.RowKit

end Go.Proofs.YtknfhphhcnbndaaGreatDoor.V

namespace Go.Proofs.YtknfhphhcnbndaaGreatDoor.V
open Go.RowKit

def knownV (n : Nd) : Value := .agg n.known.toArray
theorem known_at (n : Nd) (ev : Value) {j : Nat} {u : Value} (h : n.known[j]? = some u) : (n.cells ev)[j]? = some u ∧ j < 13 := by
  have hj : j < 13 := (List.getElem?_eq_some_iff.1 h).1
  refine ⟨?_, hj⟩
  rw [← h]
  match j, hj with
  | 0, _ | 1, _ | 2, _ | 3, _ | 4, _ | 5, _ | 6, _ | 7, _ | 8, _ | 9, _ | 10, _ | 11, _ | 12, _ => rfl
theorem known_one (n : Nd) : n.known.toArray.all (·.oneCell') = true := all_oneCell_toArray (fun u hu => by
  simp only [Nd.known, List.mem_cons, List.mem_nil_iff, or_false] at hu
  rcases hu with rfl | rfl | rfl | rfl | rfl | rfl | rfl | rfl | rfl | rfl | rfl | rfl | rfl
  all_goals rfl)

set_option maxRecDepth 100000 in
set_option maxHeartbeats 4000000 in
theorem node_get (h : Fsh) (i : Nat) (x : Nd × Value) (w : World) (H : Fs h w) (hx : h.X[i]? = some x) :
    Calls Tryz.prog 30 #[.pointer (some ⟨h.p, 0, none⟩), .int .i64 (i : Int)] w fun e w' => e = .returned (.tuple #[knownV x.1, .int .i64 0]) ∧ Below w.heap.size w w' := by
  have hil : i < h.X.length := (List.getElem?_eq_some_iff.1 hx).1
  obtain ⟨g, cap, hv, _, _⟩ := H.slice (by omega)
  have hp : h.p < w.heap.size := H.lt (.inl rfl)
  have HK := Lib.hid (show ∀ W, Below w.heap.size w W → Fs h W from fun W hb => H.keep hb)
  have HBa := Lib.hid (show ∀ o, Below w.heap.size w (w.alloc o) from fun o => (Below.refl _ _).alloc (Nat.le_refl _) _)
  have HR := Lib.hid (show ∀ W, Below w.heap.size w W → W.rangeAt g (i * 17) x.1.known from fun W hb j v hj => (H.keep hb).at_node hv hx (show j < 17 from by have := (known_at x.1 x.2 hj).2; omega) (known_at x.1 x.2 hj).1)
  have c0 : w.cell? ⟨h.p, 0, none⟩ = some (.slice (some ⟨g, 0, none⟩) h.X.length cap) := by rw [← hv]; exact H.cell0
  have hhas : hasB h (i : Int) = true := by simp [hasB, hil]
  clear hv H
  go_enter Tryz.func30, Tryz.ntmps30
  go_wp2_with (first
    | (go_at_call 65; refine (has_any h (i : Int) _ (HK.out _ (HBa.out _)) (by omega)).mono ?_; rintro e w2 ⟨rfl, hw⟩; subst hw; rw [hhas])
    | (refine wpList_load_mid rfl 66 (.tmp 17) rfl g (i * 17) rfl x.1.known _ (HR.out _ (HBa.out _)) Tryz.underlying66 rfl sizeKnown ?_)
    | (refine wpList_store_row rfl 66 (.tmp 4) (.tmp 18) rfl w.heap.size x.1.known.toArray rfl rfl _ _ (heap_alloc_new _ _) (by rw [sizeKnown]; rfl) rfl (known_one x.1) ?_; rw [World.setRow_alloc_new]))
  refine bodyPost_ret (v := .tuple #[knownV x.1, .int .i64 0]) ?_ rfl ⟨rfl, HBa.out _⟩
  rw [results_cell_tmp Tryz.results30]
  have hl := run_loadVar_row (P := Tryz.prog) (w.alloc (.cells x.1.known.toArray 66)) w.heap.size 66 66 x.1.known.toArray (0, 0) _ (heap_alloc_new _ _) Tryz.underlying66 rfl (by rw [sizeKnown]; rfl)
  simp [asAddr, hl, Result.andThen, knownV]
end Go.Proofs.YtknfhphhcnbndaaGreatDoor.V

namespace Go.Proofs.YtknfhphhcnbndaaGreatDoor.V
open Go.RowKit

/-- What is known of a node, but for its links. -/
def Nd.bare (n : Nd) : List Value := [.int .i64 n.dev, .int .i64 n.ino, .int .i64 n.kind, .int .i64 n.mode, .int .i64 n.uid, .int .i64 n.gid, .int .i64 n.size, .int .i64 n.blocks, .int .i64 0, .int .i64 n.t0, .int .i64 n.t1, .int .i64 n.t2, .string n.target]
def bares : List Nd → List Value
  | [] => []
  | n :: r => n.bare ++ bares r
/-- An entry of the reference's: where it stands, its name, its node. -/
structure It where
  at_ : Int
  name : ByteArray
  id : Int
def itCells : List It → List Value
  | [] => []
  | x :: r => .int .i64 x.at_ :: .string x.name :: .int .i64 x.id :: itCells r
/-- What covers the node number i: -1 for nothing. -/
def cov (i : Nat) (n : Nd) : Int := if n.over = (i : Int) then -1 else n.over
def covs : List Nd → Nat → List Value
  | [], _ => []
  | n :: r, i => .int .i64 (cov i n) :: covs r (i + 1)
def deads (M : List Nd) : List Value := M.map fun n => .bool n.dead
def ups (M : List Nd) : List Value := M.map fun n => .int .i64 n.up

/-- The reference's value: its six slices. -/
structure Rv where
  n : Value
  l : Value
  c : Value
  d : Value
  a : Value
  f : Value
structure Rs (M : List Nd) (L : List It) (v : Rv) (w : World) : Prop where
  hn : w.ownsRow 0 66 13 v.n M.length (bares M)
  hl : w.ownsRow 0 179 3 v.l L.length (itCells L)
  hc : w.ownsRow 0 3 1 v.c M.length (covs M 0)
  hd : w.ownsRow 0 4 1 v.d M.length (deads M)
  ha : w.ownsRow 0 3 1 v.a M.length (ups M)
  hf : w.ownsRow 0 3 1 v.f (devL M 0).length (ints (devL M 0))
theorem owns_keep {w w' : World} {e : TypeId} {size n : Nat} {v : Value} {xs : List Value} (h : w.ownsRow 0 e size v n xs) (hb : Below w.heap.size w w') : w'.ownsRow 0 e size v n xs := owns_at h fun k hk => hb.block k (h.lt k hk).2
theorem Rs.keep {M : List Nd} {L : List It} {v : Rv} {w w' : World} (h : Rs M L v w) (hb : Below w.heap.size w w') : Rs M L v w' :=
  ⟨owns_keep h.hn hb, owns_keep h.hl hb, owns_keep h.hc hb, owns_keep h.hd hb, owns_keep h.ha hb, owns_keep h.hf hb⟩
/-- The six slices, written out. -/
theorem Rs.forms {M : List Nd} {L : List It} {v : Rv} {w : World} (h : Rs M L v w) :
    ∃ an cn al cl ac cc ad cd aa ca af cf, v = ⟨.slice an M.length cn, .slice al L.length cl, .slice ac M.length cc, .slice ad M.length cd, .slice aa M.length ca, .slice af (devL M 0).length cf⟩ := by
  obtain ⟨n, l, c, d, a, f⟩ := v
  obtain ⟨an, cn, hn⟩ := owns_form h.hn
  obtain ⟨al, cl, hl⟩ := owns_form h.hl
  obtain ⟨ac, cc, hc⟩ := owns_form h.hc
  obtain ⟨ad, cd, hd⟩ := owns_form h.hd
  obtain ⟨aa, ca, ha⟩ := owns_form h.ha
  obtain ⟨af, cf, hf⟩ := owns_form h.hf
  refine ⟨an, cn, al, cl, ac, cc, ad, cd, aa, ca, af, cf, ?_⟩
  simp only at hn hl hc hd ha hf
  rw [hn, hl, hc, hd, ha, hf]

end Go.Proofs.YtknfhphhcnbndaaGreatDoor.V

namespace Go.Proofs.YtknfhphhcnbndaaGreatDoor.V
open Go.RowKit

section
variable {P : Program} {w : World}
theorem wp_append_row {o : Oper} {a : Act} {K : Act → World → Prop} {Q : Exit → Act → World → Prop} (s x : Operand) (t : TypeId)
    (ho : o.op = .call { callee := .builtin .append, args := #[s, x], argTypes := #[t, t] })
    (base : Nat) (e : TypeId) (i : TypeInfo) (z : Value) (size bytes : Nat) (ht : P.underlying t = some (.slice e)) (hi : P.info? e = some i) (hz : i.zero = some z)
    (hsize : i.size = size) (hby : i.bytes = bytes) (hzs : z.cells.size = size) (hsz : 0 < size)
    (v : Value) (n : Nat) (xs : List Value) (hs : a.eval s = v) (hown : w.ownsRow base e size v n xs) (u : Value) (m : Nat) (ys : List Value) (hx : a.eval x = u) (hsrc : w.ownsRow 0 e size u m ys) (h1 : ∀ y ∈ ys, y.oneCell' = true)
    (h63 : n + m ≤ maxLen) (hbytes : (n + m) * bytes ≤ 140737488355328) (hbase : base ≤ w.heap.size)
    (h : ∀ v' w', w'.ownsRow base e size v' (n + m) (xs ++ ys) → w.grownBy w' v.ownBlock → K (a.put o.dst v') w') : o.wp P a w K Q := by
  rcases hsrc.2 with ⟨rfl, rfl⟩ | ⟨g, cap, cur, rfl, _⟩
  · have hy : ys = [] := List.eq_nil_of_length_eq_zero (by simpa using hsrc.1)
    subst hy
    have hrun := run_append_owned_none (P := P) (w := w) base t o.type e i size ht hi v n xs hown
    unfold Oper.wp
    simp [execOp, ho, resolve, invoke, builtin, hs, hx, hrun, Result.andThen]
    exact h _ _ (by simpa using hown) ⟨rfl, rfl, rfl, Nat.le_refl _, fun _ _ _ => rfl⟩
  · exact wp_append_own w s x t ho base e i z size bytes ht hi hz hsize hby hzs hsz v n xs hs hown ⟨g, 0, none⟩ m cap ys hx hsrc.1 (hsrc.cells rfl) h1 h63 hbytes hbase (fun v' w' p q _ => h v' w' p q)
theorem wpList_append_row {ops : Array Oper} {rest : List Oper} {o : Oper} {a : Act} {Q : Exit → Act → World → Prop} (hgd : o.guard = none) (s x : Operand) (t : TypeId)
    (ho : o.op = .call { callee := .builtin .append, args := #[s, x], argTypes := #[t, t] })
    (base : Nat) (e : TypeId) (i : TypeInfo) (z : Value) (size bytes : Nat) (ht : P.underlying t = some (.slice e)) (hi : P.info? e = some i) (hz : i.zero = some z)
    (hsize : i.size = size) (hby : i.bytes = bytes) (hzs : z.cells.size = size) (hsz : 0 < size)
    (v : Value) (n : Nat) (xs : List Value) (hs : a.eval s = v) (hown : w.ownsRow base e size v n xs) (u : Value) (m : Nat) (ys : List Value) (hx : a.eval x = u) (hsrc : w.ownsRow 0 e size u m ys) (h1 : ∀ y ∈ ys, y.oneCell' = true)
    (h63 : n + m ≤ maxLen) (hbytes : (n + m) * bytes ≤ 140737488355328) (hbase : base ≤ w.heap.size)
    (h : ∀ v' w', w'.ownsRow base e size v' (n + m) (xs ++ ys) → w.grownBy w' v.ownBlock → wpList P ops Q rest (a.put o.dst v') w') : wpList P ops Q (o :: rest) a w :=
  wpList_plain hgd fun _ hK => wp_append_row s x t ho base e i z size bytes ht hi hz hsize hby hzs hsz v n xs hs hown u m ys hx hsrc h1 h63 hbytes hbase fun v' w' p q => hK _ _ (h v' w' p q)
end

/-- All but one block is as it was. -/
structure But (b : Nat) (w w' : World) : Prop where
  os : w'.os = w.os
  tape : w'.tape = w.tape
  output : w'.output = w.output
  size : w.heap.size ≤ w'.heap.size
  block : ∀ k, k < w.heap.size → k ≠ b → w'.heap[k]? = w.heap[k]?
theorem But.owns {b : Nat} {w w' : World} (h : But b w w') {e : TypeId} {size n : Nat} {v : Value} {xs : List Value} (ho : w.ownsRow 0 e size v n xs) {arr : Array Value} {T : TypeId} {fr : Nat × Nat} (hb : w.heap[b]? = some (.cells arr T fr)) (hT : e ≠ T) : w'.ownsRow 0 e size v n xs :=
  owns_at ho fun k hk => h.block k (ho.lt k hk).2 (fun q => by
    subst q
    obtain ⟨cur, hc⟩ := owns_type ho hk
    rw [hb] at hc
    simp at hc
    exact hT hc.2.1.symm)
theorem But.below {b B : Nat} {w0 w w' : World} (h : But b w w') (h0 : Below B w0 w) (hB : B ≤ b) (hw : B ≤ w.heap.size) : Below B w0 w' :=
  h0.trans ⟨h.os, h.tape, h.output, h.size, fun k hk => h.block k (by omega) (by omega)⟩

theorem owns_made {W : World} {e : TypeId} {size base : Nat} (hb : base ≤ W.heap.size) : (W.alloc (.cells #[] e)).ownsRow base e size (.slice (some ⟨W.heap.size, 0, none⟩) 0 0) 0 [] := World.ownsRow_made W #[] 0 hb (by decide) (by simp)
end Go.Proofs.YtknfhphhcnbndaaGreatDoor.V
