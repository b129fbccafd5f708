/-
  A walk that keeps what is open on a stack, by a model: what is still to be visited, and what each step visits of it. Conditions: each fact's own.
  A walk under way as it lies in memory: what asks, the stack of what is open, the visits; what a push, a pop, a visit more and an entry less make of it. Conditions: each fact's own.
-/
import Derived.Test.YtpikndeefiediaaGreatDoorKGBoundM
import Derived.Test.YtpikndeefiediaaGreatDoorKRow
import Derived.Deep.AppendLies
set_option linter.unusedVariables false
namespace Go.Proofs.YtpikndeefiediaaGreatDoor.G

/-- A walk from v on, as deep as there is room from v's depth on. -/
def wkV (T : Tr) (most : Int) (v : Vis) : List Vis := walkV T most (101 - v.depth).toNat v
theorem kids_congr {g g' : Vis → List Vis} {v : Vis} : ∀ (l : List (ByteArray × Int)), (∀ e b, g (kidV v e b) = g' (kidV v e b)) → kidsV g v l = kidsV g' v l
  | [], _ => rfl
  | e :: r, h => by unfold kidsV; rw [h, kids_congr r h]
theorem fuel_at {v : Vis} (h0 : 0 ≤ v.depth) (hd : v.depth ≤ 100) : ∃ f : Nat, (101 - v.depth).toNat = f + 1 ∧ (f : Int) = 100 - v.depth := ⟨(100 - v.depth).toNat, by omega, by omega⟩
theorem wk_leaf {T : Tr} {most : Int} {v : Vis} (h0 : 0 ≤ v.depth) (hd : v.depth ≤ 100) (h : ¬ (T.dir (T.over v.id) = true ∧ deepB most v.depth = true)) : wkV T most v = [atV T v] := by
  obtain ⟨f, hf, _⟩ := fuel_at h0 hd
  unfold wkV
  rw [hf, walk_leaf h]
theorem wk_err {T : Tr} {most : Int} {v : Vis} (h0 : 0 ≤ v.depth) (hd : v.depth ≤ 100) (h : T.dir (T.over v.id) = true ∧ deepB most v.depth = true) (hs : (T.shown (T.over v.id)).1 ≠ 0) : wkV T most v = [atV T v, errV (atV T v) (T.shown (T.over v.id)).1] := by
  obtain ⟨f, hf, _⟩ := fuel_at h0 hd
  unfold wkV
  rw [hf, walk_err h hs]
theorem wk_dir {T : Tr} {most : Int} {v : Vis} (h0 : 0 ≤ v.depth) (hd : v.depth ≤ 100) (h : T.dir (T.over v.id) = true ∧ deepB most v.depth = true) (hs : (T.shown (T.over v.id)).1 = 0) : wkV T most v = atV T v :: (kidsV (wkV T most) (atV T v) (T.shown (T.over v.id)).2 ++ [overV (atV T v)]) := by
  obtain ⟨f, hf, hf2⟩ := fuel_at h0 hd
  have e : kidsV (wkV T most) (atV T v) (T.shown (T.over v.id)).2 = kidsV (walkV T most f) (atV T v) (T.shown (T.over v.id)).2 := kids_congr _ fun e b => by
    unfold wkV
    have : (101 - (kidV (atV T v) e b).depth).toNat = f := by
      have e1 : (kidV (atV T v) e b).depth = v.depth + 1 := rfl
      omega
    rw [this]
  rw [e]
  unfold wkV
  rw [hf, walk_dir h hs]
theorem deep_lt {most d : Int} (h : deepB most d = true) : d < 100 := by
  unfold deepB at h
  rw [Bool.and_eq_true] at h
  exact of_decide_eq_true h.2
/-- The depth at which none is gone deeper. -/
def deepestI (most : Int) : Int := if most < 0 then 100 else if most < 100 then most else 100
theorem deepest_deep (most d : Int) : deepB most d = decide (d < deepestI most) := by
  unfold deepB deepestI
  by_cases h1 : most < 0
  · rw [decide_eq_true h1, if_pos h1]
    simp
  · rw [decide_eq_false h1, if_neg h1, Bool.false_or]
    by_cases h2 : most < 100
    · rw [if_pos h2]
      by_cases h3 : d < most
      · rw [decide_eq_true h3, decide_eq_true (show d < 100 by omega)]; rfl
      · rw [decide_eq_false h3]; rfl
    · rw [if_neg h2]
      by_cases h3 : d < 100
      · rw [decide_eq_true h3, decide_eq_true (show d < most by omega)]; rfl
      · rw [decide_eq_false h3, Bool.and_false]

/-- A directory that is open: its first visit, the slice of its entries that are still to be met, and these. -/
structure Fr where
  v : Vis
  lv : Value
  l : List (ByteArray × Int)
/-- What is still to be visited of what is open, the deepest one first. -/
def restV (T : Tr) (most : Int) : List Fr → List Vis
  | [] => []
  | x :: r => kidsV (wkV T most) x.v x.l ++ (overV x.v :: restV T most r)
theorem rest_next {T : Tr} {most : Int} {v : Vis} {a b : Value} {e : ByteArray × Int} {l : List (ByteArray × Int)} {r : List Fr} : restV T most (⟨v, a, e :: l⟩ :: r) = wkV T most (kidV v e l.isEmpty) ++ restV T most (⟨v, b, l⟩ :: r) := by
  show (wkV T most (kidV v e l.isEmpty) ++ kidsV (wkV T most) v l) ++ _ = _
  rw [List.append_assoc]
  rfl
theorem rest_over {T : Tr} {most : Int} {v : Vis} {a : Value} {r : List Fr} : restV T most (⟨v, a, []⟩ :: r) = overV v :: restV T most r := rfl
/-- Each one that is open is as deep as there are others below it. -/
def deepS : List Fr → Prop
  | [] => True
  | x :: r => x.v.depth = (r.length : Int) ∧ r.length < 100 ∧ deepS r
theorem deepS_len {S : List Fr} (h : deepS S) : S.length ≤ 100 := by
  cases S with
  | nil => exact Nat.zero_le _
  | cons x r => have := h.2.1; rw [List.length_cons]; omega
theorem wk_pos (T : Tr) (most : Int) (v : Vis) : ∃ r, wkV T most v = atV T v :: r := by
  unfold wkV
  cases (101 - v.depth).toNat with
  | zero => exact ⟨[], rfl⟩
  | succ f =>
    unfold walkV
    split
    · split
      · exact ⟨_, rfl⟩
      · exact ⟨_, rfl⟩
    · exact ⟨_, rfl⟩
end Go.Proofs.YtpikndeefiediaaGreatDoor.G

namespace Go.Proofs.YtpikndeefiediaaGreatDoor.G
open Go.RowKit

/-! ### rows of several cells each -/
def rowsC {α : Type} (f : α → List Value) : List α → List Value
  | [] => []
  | x :: r => f x ++ rowsC f r
section
variable {α : Type} {f : α → List Value} {k : Nat}
theorem rowsC_len (hk : ∀ x, (f x).length = k) : ∀ l, (rowsC f l).length = l.length * k
  | [] => by simp [rowsC]
  | x :: r => by rw [rowsC, List.length_append, hk, rowsC_len hk r, List.length_cons, Nat.add_mul]; omega
theorem rowsC_app : ∀ a b, rowsC f (a ++ b) = rowsC f a ++ rowsC f b
  | [], b => rfl
  | x :: r, b => by rw [List.cons_append, rowsC, rowsC, rowsC_app r b, List.append_assoc]
theorem rowsC_one (x : α) : rowsC f [x] = f x := by rw [rowsC, rowsC, List.append_nil]
theorem rowsC_get (hk : ∀ x, (f x).length = k) : ∀ (l : List α) (i j : Nat) (x : α), l[i]? = some x → j < k → (rowsC f l)[i * k + j]? = (f x)[j]?
  | [], i, j, x, h, _ => by simp at h
  | y :: r, 0, j, x, h, hj => by
    obtain rfl : y = x := by simpa using h
    rw [rowsC, Nat.zero_mul, Nat.zero_add, List.getElem?_append_left (by rw [hk]; exact hj)]
  | y :: r, i + 1, j, x, h, hj => by
    have h' : r[i]? = some x := by simpa using h
    rw [rowsC, List.getElem?_append_right (by rw [hk, Nat.add_mul]; omega), hk, show (i + 1) * k + j - k = i * k + j by rw [Nat.add_mul]; omega]
    exact rowsC_get hk r i j x h' hj
theorem rowsC_take (hk : ∀ x, (f x).length = k) : ∀ (l : List α) (n : Nat), (rowsC f l).take (n * k) = rowsC f (l.take n)
  | l, 0 => by rw [Nat.zero_mul, List.take_zero, List.take_zero]; rfl
  | [], n + 1 => by simp [rowsC]
  | y :: r, n + 1 => by
    rw [rowsC, List.take_succ_cons, rowsC, List.take_append, hk, show (n + 1) * k - k = n * k by rw [Nat.add_mul]; omega, rowsC_take hk r n, List.take_of_length_le (by rw [hk, Nat.add_mul]; omega)]
theorem rowsC_set (hk : ∀ x, (f x).length = k) : ∀ (l : List α) (i j : Nat) (x x' : α) (u : Value), l[i]? = some x → j < k → f x' = (f x).set j u → (rowsC f l).set (i * k + j) u = rowsC f (l.set i x')
  | [], i, j, x, x', u, h, _, _ => by simp at h
  | y :: r, 0, j, x, x', u, h, hj, hs => by
    obtain rfl : y = x := by simpa using h
    rw [rowsC, Nat.zero_mul, Nat.zero_add, List.set_append_left _ _ (by rw [hk]; exact hj), ← hs]
    rfl
  | y :: r, i + 1, j, x, x', u, h, hj, hs => by
    have h' : r[i]? = some x := by simpa using h
    rw [rowsC, List.set_append_right _ _ (by rw [hk, Nat.add_mul]; omega), hk, show (i + 1) * k + j - k = i * k + j by rw [Nat.add_mul]; omega, rowsC_set hk r i j x x' u h' hj hs]
    rfl
end

/-! ### a visit, an entry, a directory that is open, cell by cell -/
def visC (v : Vis) : List Value := [.int .i64 v.id, .int .i64 v.depth, .string v.name, .string v.base, .bool v.last, .bool v.over, .int .i64 v.err]
def visV (v : Vis) : Value := .agg #[.int .i64 v.id, .int .i64 v.depth, .string v.name, .string v.base, .bool v.last, .bool v.over, .int .i64 v.err]
theorem visC_len (v : Vis) : (visC v).length = 7 := rfl
theorem visC_one (v : Vis) : ∀ u ∈ visC v, u.oneCell' = true := by
  intro u hu
  simp only [visC, List.mem_cons, List.not_mem_nil, or_false] at hu
  rcases hu with rfl | rfl | rfl | rfl | rfl | rfl | rfl <;> rfl
def frC (x : Fr) : List Value := [.int .i64 x.v.id, .int .i64 x.v.depth, .string x.v.name, .string x.v.base, .bool x.v.last, .bool x.v.over, .int .i64 x.v.err, x.lv]
theorem frC_len (x : Fr) : (frC x).length = 8 := rfl
def enC' (e : ByteArray × Int) : List Value := [.string e.1, .int .i64 e.2]
theorem enC'_len (e : ByteArray × Int) : (enC' e).length = 2 := rfl
/-- In w the slice v holds these entries: a row that was made behind B, or what lies behind in it. -/
def EntsAt (B0 : Nat) (w : World) (v : Value) (l : List (ByteArray × Int)) : Prop :=
  ∃ a cap, v = .slice a l.length cap ∧ l.length ≤ cap ∧ cap ≤ maxLen ∧ (l ≠ [] → ∃ g o cur, a = some ⟨g, o, none⟩ ∧ B0 ≤ g ∧ w.heap[g]? = some (.cells cur 45 (0, 0)) ∧ ∀ j u, (rowsC enC' l)[j]? = some u → cur[o + j]? = some u)
theorem EntsAt.of_owns {B0 : Nat} {w : World} {v : Value} {l : List (ByteArray × Int)} (h : w.ownsRow B0 45 2 v l.length (rowsC enC' l)) : EntsAt B0 w v l := by
  rcases h.2 with ⟨rfl, h0⟩ | ⟨g, cap, cur, rfl, hb, hg, hnc, hcm, hcs, ht⟩
  · exact ⟨none, 0, by rw [h0], by omega, by decide, fun q => absurd (List.eq_nil_of_length_eq_zero h0) q⟩
  · refine ⟨_, cap, rfl, hnc, hcm, fun _ => ⟨g, 0, cur, rfl, hb, hg, fun j u hu => ?_⟩⟩
    rw [← ht, List.getElem?_take] at hu
    split at hu
    · rw [Nat.zero_add]; simpa using hu
    · cases hu
theorem EntsAt.at_ {B0 : Nat} {w w' : World} {v : Value} {l : List (ByteArray × Int)} (h : EntsAt B0 w v l) (hk : ∀ g cur, B0 ≤ g → w.heap[g]? = some (.cells cur 45 (0, 0)) → w'.heap[g]? = some (.cells cur 45 (0, 0))) : EntsAt B0 w' v l := by
  obtain ⟨a, cap, e, h1, h2, h3⟩ := h
  refine ⟨a, cap, e, h1, h2, fun q => ?_⟩
  obtain ⟨g, o, cur, e1, e2, e3, e4⟩ := h3 q
  exact ⟨g, o, cur, e1, e2, hk g cur e2 e3, e4⟩
theorem EntsAt.keep {B0 : Nat} {w w' : World} {v : Value} {l : List (ByteArray × Int)} (h : EntsAt B0 w v l) (hb : Below w.heap.size w w') : EntsAt B0 w' v l :=
  h.at_ fun g cur _ hg => (hb.block g (B.heap_lt hg)).trans hg
theorem EntsAt.first {B0 : Nat} {w : World} {v : Value} {e : ByteArray × Int} {l : List (ByteArray × Int)} (h : EntsAt B0 w v (e :: l)) :
    ∃ g o cap, v = .slice (some ⟨g, o, none⟩) (l.length + 1) cap ∧ B0 ≤ g ∧ l.length + 1 ≤ cap ∧ cap ≤ maxLen ∧ w.cell? ⟨g, o, none⟩ = some (.string e.1) ∧ w.cell? ⟨g, o + 1, none⟩ = some (.int .i64 e.2) ∧ EntsAt B0 w (.slice (if cap = 1 then some ⟨g, o, none⟩ else some ⟨g, o + 2, none⟩) l.length (cap - 1)) l := by
  obtain ⟨a, cap, rfl, h1, h2, h3⟩ := h
  rw [List.length_cons] at h1
  obtain ⟨g, o, cur, rfl, e2, e3, e4⟩ := h3 (by simp)
  refine ⟨g, o, cap, by rw [List.length_cons], e2, h1, h2, ?_, ?_, ?_⟩
  · rw [cell_of_row _ _ _ _ _ _ e3]; exact e4 0 _ rfl
  · rw [cell_of_row _ _ _ _ _ _ e3]; exact e4 1 _ rfl
  · refine ⟨_, cap - 1, rfl, by omega, by omega, fun q => ?_⟩
    have hl : 0 < l.length := List.length_pos_iff.2 q
    rw [if_neg (show cap ≠ 1 by omega)]
    refine ⟨g, o + 2, cur, rfl, e2, e3, fun j u hu => ?_⟩
    rw [show o + 2 + j = o + (j + 1 + 1) by omega]
    refine e4 _ _ ?_
    rw [rowsC]
    exact hu

/-! ### the walk's own blocks -/
/-- A walk under way: at b what asks and the two slices; nothing that was there at its beginning has changed. -/
structure Wk (W0 : World) (R nb : Nat) (nc : Array Value) (b p : Nat) (u g most : Int) (all : Bool) (S : List Fr) (D : List Vis) (sv vv : Value) (w : World) : Prop where
  head : w.heap[b]? = some (.cells #[.pointer (some ⟨p, 0, none⟩), .int .i64 u, .int .i64 g, .int .i64 most, .bool all, sv, vv] 95 (0, 0))
  stk : w.ownsRow R 113 8 sv S.length (rowsC frC S.reverse)
  vis : w.ownsRow R 82 7 vv D.length (rowsC visC D)
  ents : ∀ x ∈ S, EntsAt W0.heap.size w x.lv x.l
  low : Below W0.heap.size W0 w
  ge : W0.heap.size ≤ b
  now : w.heap[nb]? = some (.cells nc 82 (0, 0))
  lt : nb < R
  rge : W0.heap.size ≤ R
  rle : R ≤ w.heap.size
section
variable {W0 : World} {R nb : Nat} {nc : Array Value} {b p : Nat} {u g most : Int} {all : Bool} {S : List Fr} {D : List Vis} {sv vv : Value} {w w' w1 : World}
theorem Wk.keep (h : Wk W0 R nb nc b p u g most all S D sv vv w) (hb : Below w.heap.size w w') : Wk W0 R nb nc b p u g most all S D sv vv w' :=
  ⟨(hb.block _ (B.heap_lt h.head)).trans h.head, B.owns_to h.stk hb, B.owns_to h.vis hb, fun x hx => (h.ents x hx).keep hb, h.low.trans (hb.mono h.low.size), h.ge, (hb.block _ (B.heap_lt h.now)).trans h.now, h.lt, h.rge, Nat.le_trans h.rle hb.size⟩
theorem Wk.cell (h : Wk W0 R nb nc b p u g most all S D sv vv w) {j : Nat} {v : Value} (hj : (#[.pointer (some ⟨p, 0, none⟩), .int .i64 u, .int .i64 g, .int .i64 most, .bool all, sv, vv] : Array Value)[j]? = some v) : w.cell? ⟨b, j, none⟩ = some v := by
  rw [cell_of_row _ _ _ _ _ _ h.head]; exact hj
theorem Wk.free (h : Wk W0 R nb nc b p u g most all S D sv vv w) (j : Nat) : w.frozen? ⟨b, j, none⟩ = false := frozen_of_row _ _ _ _ _ h.head
theorem Wk.s_ne (h : Wk W0 R nb nc b p u g most all S D sv vv w) {k : Nat} (hk : sv.ownBlock = some k) : k ≠ b := by
  rintro rfl
  obtain ⟨cur, hc⟩ := B.owns_type h.stk hk
  rw [h.head] at hc
  simp at hc
theorem Wk.v_ne (h : Wk W0 R nb nc b p u g most all S D sv vv w) {k : Nat} (hk : vv.ownBlock = some k) : k ≠ b := by
  rintro rfl
  obtain ⟨cur, hc⟩ := B.owns_type h.vis hk
  rw [h.head] at hc
  simp at hc
theorem Wk.sv_ne (h : Wk W0 R nb nc b p u g most all S D sv vv w) {k j : Nat} (hk : sv.ownBlock = some k) (hj : vv.ownBlock = some j) : k ≠ j := by
  rintro rfl
  obtain ⟨cur, hc⟩ := B.owns_type h.stk hk
  obtain ⟨cur', hc'⟩ := B.owns_type h.vis hj
  rw [hc'] at hc
  simp at hc
theorem Wk.n_ne (h : Wk W0 R nb nc b p u g most all S D sv vv w) : nb ≠ b := by
  rintro rfl
  have := h.now
  rw [h.head] at this
  simp at this
/-- Behind an append of visits, and the store of the new slice. -/
theorem Wk.visit (h : Wk W0 R nb nc b p u g most all S D sv vv w) {E : List Vis} {v1 : Value} (ho : w1.ownsRow R 82 7 v1 (D.length + E.length) (rowsC visC D ++ rowsC visC E)) (hg : w.grownBy w1 vv.ownBlock) :
    Wk W0 R nb nc b p u g most all S (D ++ E) sv v1 (w1.setCell ⟨b, 6, none⟩ v1) := by
  have hbl := B.heap_lt h.head
  have hh : w1.heap[b]? = some (.cells #[.pointer (some ⟨p, 0, none⟩), .int .i64 u, .int .i64 g, .int .i64 most, .bool all, sv, vv] 95 (0, 0)) := (hg.block b hbl (fun e => h.v_ne e.symm rfl)).trans h.head
  have hne : ∀ k, v1.ownBlock = some k → k ≠ b := fun k hk => by
    rintro rfl
    obtain ⟨cur, hc⟩ := B.owns_type ho hk
    rw [hh] at hc
    simp at hc
  refine ⟨heap_setCell_same _ _ _ _ _ _ hh, ?_, ?_, fun x hx => (h.ents x hx).at_ fun k cur hB hk => ?_, ?_, h.ge, ?_, h.lt, h.rge, ?_⟩
  · refine B.owns_at h.stk fun k hk => ?_
    rw [heap_setCell_other _ _ _ _ (h.s_ne hk)]
    exact hg.block k (h.stk.lt k hk).2 (fun e => h.sv_ne hk e.symm rfl)
  · rw [List.length_append, rowsC_app]
    exact B.owns_at ho fun k hk => heap_setCell_other _ _ _ _ (hne k hk)
  · have h1 : k ≠ b := by rintro rfl; rw [h.head] at hk; simp at hk
    have h2 : some k ≠ vv.ownBlock := fun e => by
      obtain ⟨cur', hc⟩ := B.owns_type h.vis e.symm
      rw [hk] at hc
      simp at hc
    rw [heap_setCell_other _ _ _ _ h1]
    exact (hg.block k (B.heap_lt hk) h2).trans hk
  · exact (h.low.grown hg h.low.size (fun k e => Nat.le_trans h.rge (h.vis.lt k e).1)).setCell h.ge _
  · rw [heap_setCell_other _ _ _ _ h.n_ne]
    exact (hg.block _ (B.heap_lt h.now) (fun e => by have := (h.vis.lt _ e.symm).1; have := h.lt; omega)).trans h.now
  · have e : (w1.setCell ⟨b, 6, none⟩ v1).heap.size = w1.heap.size := by simp [World.setCell]
    rw [e]; exact Nat.le_trans h.rle hg.size
/-- Behind an append of what is opened, and the store of the new slice. -/
theorem Wk.push (h : Wk W0 R nb nc b p u g most all S D sv vv w) {x : Fr} {v1 : Value} (ho : w1.ownsRow R 113 8 v1 (S.length + 1) (rowsC frC S.reverse ++ frC x)) (hg : w.grownBy w1 sv.ownBlock) (hx : EntsAt W0.heap.size w x.lv x.l) :
    Wk W0 R nb nc b p u g most all (x :: S) D v1 vv (w1.setCell ⟨b, 5, none⟩ v1) := by
  have hbl := B.heap_lt h.head
  have hh : w1.heap[b]? = some (.cells #[.pointer (some ⟨p, 0, none⟩), .int .i64 u, .int .i64 g, .int .i64 most, .bool all, sv, vv] 95 (0, 0)) := (hg.block b hbl (fun e => h.s_ne e.symm rfl)).trans h.head
  have hne : ∀ k, v1.ownBlock = some k → k ≠ b := fun k hk => by
    rintro rfl
    obtain ⟨cur, hc⟩ := B.owns_type ho hk
    rw [hh] at hc
    simp at hc
  have hen : ∀ (v : Value) (l : List (ByteArray × Int)), EntsAt W0.heap.size w v l → EntsAt W0.heap.size (w1.setCell ⟨b, 5, none⟩ v1) v l := fun v l hv => hv.at_ fun k cur hB hk => by
    have h1 : k ≠ b := by rintro rfl; rw [h.head] at hk; simp at hk
    have h2 : some k ≠ sv.ownBlock := fun e => by
      obtain ⟨cur', hc⟩ := B.owns_type h.stk e.symm
      rw [hk] at hc
      simp at hc
    rw [heap_setCell_other _ _ _ _ h1]
    exact (hg.block k (B.heap_lt hk) h2).trans hk
  refine ⟨heap_setCell_same _ _ _ _ _ _ hh, ?_, ?_, fun y hy => ?_, ?_, h.ge, ?_, h.lt, h.rge, ?_⟩
  · rw [List.length_cons, List.reverse_cons, rowsC_app, rowsC_one]
    exact B.owns_at ho fun k hk => heap_setCell_other _ _ _ _ (hne k hk)
  · refine B.owns_at h.vis fun k hk => ?_
    rw [heap_setCell_other _ _ _ _ (h.v_ne hk)]
    exact hg.block k (h.vis.lt k hk).2 (fun e => h.sv_ne e.symm hk rfl)
  · rcases List.mem_cons.1 hy with rfl | hy
    · exact hen _ _ hx
    · exact hen _ _ (h.ents y hy)
  · exact (h.low.grown hg h.low.size (fun k e => Nat.le_trans h.rge (h.stk.lt k e).1)).setCell h.ge _
  · rw [heap_setCell_other _ _ _ _ h.n_ne]
    exact (hg.block _ (B.heap_lt h.now) (fun e => by have := (h.stk.lt _ e.symm).1; have := h.lt; omega)).trans h.now
  · have e : (w1.setCell ⟨b, 5, none⟩ v1).heap.size = w1.heap.size := by simp [World.setCell]
    rw [e]; exact Nat.le_trans h.rle hg.size
/-- The stack's slice, where something is open. -/
theorem Wk.stack (h : Wk W0 R nb nc b p u g most all S D sv vv w) (hS : S ≠ []) : ∃ k cap, sv = .slice (some ⟨k, 0, none⟩) S.length cap ∧ S.length ≤ cap ∧ cap ≤ maxLen ∧ k < w.heap.size := by
  obtain ⟨k, cap, e, h1, h2⟩ := B.owns_some h.stk (List.length_pos_iff.2 hS)
  exact ⟨k, cap, e, h1, h2, (h.stk.lt k (by rw [e]; rfl)).2⟩
theorem top_at {x : Fr} {r : List Fr} : (x :: r).reverse[r.length]? = some x := by
  rw [List.reverse_cons, List.getElem?_append_right (by simp)]
  simp
/-- What is open on top, cell by cell. -/
theorem Wk.top {x : Fr} {r : List Fr} {k cap : Nat} (h : Wk W0 R nb nc b p u g most all (x :: r) D (.slice (some ⟨k, 0, none⟩) (r.length + 1) cap) vv w) {j : Nat} {v : Value} (hv : (frC x)[j]? = some v) : w.cell? ⟨k, r.length * 8 + j, none⟩ = some v := by
  have hj : j < 8 := (List.getElem?_eq_some_iff.1 hv).1
  refine B.owns_cell (n := r.length + 1) (cap := cap) h.stk ?_
  rw [rowsC_get frC_len _ _ _ _ top_at hj]
  exact hv
theorem Wk.top_free {x : Fr} {r : List Fr} {k cap : Nat} (h : Wk W0 R nb nc b p u g most all (x :: r) D (.slice (some ⟨k, 0, none⟩) (r.length + 1) cap) vv w) (j : Nat) : w.frozen? ⟨k, j, none⟩ = false := B.owns_frozen (n := r.length + 1) (cap := cap) h.stk j
/-- The one on top taken off. -/
theorem Wk.pop {x : Fr} {r : List Fr} {k cap : Nat} (h : Wk W0 R nb nc b p u g most all (x :: r) D (.slice (some ⟨k, 0, none⟩) (r.length + 1) cap) vv w) :
    Wk W0 R nb nc b p u g most all r D (.slice (some ⟨k, 0, none⟩) r.length cap) vv (w.setCell ⟨b, 5, none⟩ (.slice (some ⟨k, 0, none⟩) r.length cap)) := by
  have hkb : k ≠ b := h.s_ne rfl
  refine ⟨heap_setCell_same _ _ _ _ _ _ h.head, ?_, ?_, fun y hy => (h.ents y (List.mem_cons_of_mem _ hy)).at_ fun j cur hB hj => ?_, h.low.setCell h.ge _, h.ge, ?_, h.lt, h.rge, by simpa [World.setCell] using h.rle⟩
  · have ho := h.stk
    rcases ho.2 with ⟨q, _⟩ | ⟨k', cap', cur, hv, hB, hg, hnc, hcm, hcs, ht⟩
    · cases q
    · simp only [Value.slice.injEq, Option.some.injEq, Addr.mk.injEq] at hv
      obtain ⟨⟨rfl, _, _⟩, _, rfl⟩ := hv
      rw [List.length_cons] at hnc ht
      refine ⟨by rw [rowsC_len frC_len, List.length_reverse], .inr ⟨k, cap, cur, rfl, hB, ?_, by omega, hcm, hcs, ?_⟩⟩
      · rw [heap_setCell_other _ _ _ _ hkb]; exact hg
      · have e2 := congrArg (List.take (r.length * 8)) ht
        rw [List.take_take, rowsC_take frC_len, List.reverse_cons, List.take_left' (by rw [List.length_reverse]), Nat.min_eq_left (by omega)] at e2
        exact e2
  · exact B.owns_at h.vis fun j hj => heap_setCell_other _ _ _ _ (h.v_ne hj)
  · rw [heap_setCell_other _ _ _ _ (by rintro rfl; rw [h.head] at hj; simp at hj)]; exact hj
  · rw [heap_setCell_other _ _ _ _ h.n_ne]; exact h.now
/-- An entry less of the one on top. -/
theorem Wk.less {v : Vis} {a c : Value} {l l' : List (ByteArray × Int)} {r : List Fr} {k cap : Nat} (h : Wk W0 R nb nc b p u g most all (⟨v, a, l⟩ :: r) D (.slice (some ⟨k, 0, none⟩) (r.length + 1) cap) vv w) (hc : EntsAt W0.heap.size w c l') :
    Wk W0 R nb nc b p u g most all (⟨v, c, l'⟩ :: r) D (.slice (some ⟨k, 0, none⟩) (r.length + 1) cap) vv (w.setCell ⟨k, r.length * 8 + 7, none⟩ c) := by
  have hkb : k ≠ b := h.s_ne rfl
  have hkR : R ≤ k := (h.stk.lt k rfl).1
  have hkB : W0.heap.size ≤ k := Nat.le_trans h.rge hkR
  have hen : ∀ (q : Value) (m : List (ByteArray × Int)), EntsAt W0.heap.size w q m → EntsAt W0.heap.size (w.setCell ⟨k, r.length * 8 + 7, none⟩ c) q m := fun q m hq => hq.at_ fun j cur hB hj => by
    have h2 : j ≠ k := fun e => by
      subst e
      obtain ⟨cur', hc'⟩ := B.owns_type h.stk rfl
      rw [hj] at hc'
      simp at hc'
    rw [heap_setCell_other _ _ _ _ h2]; exact hj
  refine ⟨?_, ?_, ?_, fun y hy => ?_, h.low.setCell hkB _, h.ge, by rw [heap_setCell_other _ _ _ _ (show nb ≠ k from by have := h.lt; omega)]; exact h.now, h.lt, h.rge, by simpa [World.setCell] using h.rle⟩
  · rw [heap_setCell_other _ _ _ _ (fun e => hkb e.symm)]; exact h.head
  · have ho := h.stk
    rw [List.length_cons] at ho ⊢
    have := B.owns_setCell ho (j := r.length * 8 + 7) (by rw [rowsC_len frC_len, List.length_reverse, List.length_cons]; omega) c
    rw [rowsC_set frC_len (Fr.mk v a l :: r).reverse r.length 7 ⟨v, a, l⟩ ⟨v, c, l'⟩ c top_at (by omega) rfl] at this
    have e : (Fr.mk v a l :: r).reverse.set r.length ⟨v, c, l'⟩ = (Fr.mk v c l' :: r).reverse := by
      rw [List.reverse_cons, List.reverse_cons, List.set_append_right _ _ (by simp)]
      simp
    rwa [e] at this
  · exact B.owns_at h.vis fun j hj => heap_setCell_other _ _ _ _ (fun e => h.sv_ne (k := k) rfl hj e.symm)
  · rcases List.mem_cons.1 hy with rfl | hy
    · exact hen _ _ hc
    · exact hen _ _ (h.ents y (List.mem_cons_of_mem _ hy))
end
end Go.Proofs.YtpikndeefiediaaGreatDoor.G
