/-
  What walks of later layers lean on: rows that a call has made, as they lie in memory. Conditions: each fact's own.
  A region that draws its order, whose operation number z waits for others and may write what they read: what is said of the world (S) holds till z comes up, and no longer; and what append does with a row behind it (stage 6's texts, apart from file systems). Conditions: each law's own.
  Rows whose members are of several cells each: what came in, and what a call has made. Conditions: each fact's own.
  Members of several cells stored into a row that a call has made; rows of zeros; what growth keeps. Conditions: each fact's own.
  Till's steps, said shortly: an operation that only reads, a row read whole, a call. Conditions: each law's own.
-/
import Derived.Test.YtknfhphhcnbndaaGreatDoorRows
import Derived.WalkKit
import Derived.WalkSpells
import Derived.WalkLawsBesides
import Derived.OwnWalk
import Derived.Lib.Hide
import Derived.Lib.OthersKept
import Derived.Laws.AppendOwn
import Derived.Deep.QuietTactic
import Derived.BigQuiet
import Derived.Deep.CutRange
import Derived.Deep.MidRow
import Derived.Deep.RegionHeld3
import Derived.Laws.AppendOwnNone
import Derived.Deep.AppendLies
set_option linter.unusedSimpArgs false
set_option linter.unusedVariables false
namespace Go.Proofs.YtknfhphhcnbndaaGreatDoor.B
open Go.RowKit

theorem below_two {w a b : World} (h : Below w.heap.size w a) (k : Below a.heap.size a b) : Below w.heap.size w b := h.trans (k.mono h.size)
theorem below_drewNb {B n : Nat} {w w' : World} (hb : Below B w w') : Below B w (w'.drewN n) := ⟨hb.os, hb.tape, hb.output, hb.size, hb.block⟩
theorem heap_lt {w : World} {k : Nat} {o : Obj} (h : w.heap[k]? = some o) : k < w.heap.size := by
  apply Classical.byContradiction
  intro hn
  rw [Array.getElem?_eq_none (by omega)] at h
  cases h

theorem owns_setCell {w : World} {base : Nat} {e : TypeId} {size g n cap : Nat} {xs : List Value} (h : w.ownsRow base e size (.slice (some ⟨g, 0, none⟩) n cap) n xs) {j : Nat} (hj : j < xs.length) (u : Value) :
    (w.setCell ⟨g, j, none⟩ u).ownsRow base e size (.slice (some ⟨g, 0, none⟩) n cap) n (xs.set j u) := by
  obtain ⟨hl, h⟩ := h
  refine ⟨by rw [List.length_set]; exact hl, ?_⟩
  rcases h with ⟨h, _⟩ | ⟨g', cap', cur, hv, hb, hg, hnc, hcm, hcs, ht⟩
  · cases h
  · simp only [Value.slice.injEq, Option.some.injEq, Addr.mk.injEq] at hv
    obtain ⟨⟨rfl, _, _⟩, _, rfl⟩ := hv
    refine .inr ⟨g, cap, cur.setIfInBounds j u, rfl, hb, heap_setCell_same w g j cur e u hg, hnc, hcm, by rw [Array.size_setIfInBounds]; exact hcs, ?_⟩
    rw [Array.toList_setIfInBounds, List.take_set, ht]
theorem owns_frozen {w : World} {base : Nat} {e : TypeId} {size g n cap : Nat} {xs : List Value} (h : w.ownsRow base e size (.slice (some ⟨g, 0, none⟩) n cap) n xs) (j : Nat) : w.frozen? ⟨g, j, none⟩ = false := by
  rcases h.2 with ⟨h, _⟩ | ⟨g', cap', cur, hv, hb, hg, _⟩
  · cases h
  · simp only [Value.slice.injEq, Option.some.injEq, Addr.mk.injEq] at hv
    obtain ⟨⟨rfl, _, _⟩, _, _⟩ := hv
    exact frozen_of_row w g j cur e hg
theorem owns_cell {w : World} {base : Nat} {e : TypeId} {size g n cap : Nat} {xs : List Value} (h : w.ownsRow base e size (.slice (some ⟨g, 0, none⟩) n cap) n xs) {j : Nat} {u : Value} (hu : xs[j]? = some u) : w.cell? ⟨g, j, none⟩ = some u := by
  have := h.cells (g := g) rfl j u hu
  have hadd : (⟨g, 0, none⟩ : Addr).add j = ⟨g, j, none⟩ := by unfold Addr.add; split <;> simp_all
  rwa [hadd] at this
theorem owns_some {w : World} {base : Nat} {e : TypeId} {size n : Nat} {v : Value} {xs : List Value} (h : w.ownsRow base e size v n xs) (hn : 0 < n) : ∃ g cap, v = .slice (some ⟨g, 0, none⟩) n cap ∧ n ≤ cap ∧ cap ≤ maxLen := by
  rcases h.2 with ⟨_, h⟩ | ⟨g, cap, cur, hv, hb, hg, hnc, hcm, _⟩
  · omega
  · exact ⟨g, cap, hv, hnc, hcm⟩
theorem owns_at {w w' : World} {base : Nat} {e : TypeId} {size n : Nat} {v : Value} {xs : List Value} (h : w.ownsRow base e size v n xs) (hk : ∀ k, v.ownBlock = some k → w'.heap[k]? = w.heap[k]?) : w'.ownsRow base e size v n xs := by
  refine ⟨h.1, ?_⟩
  rcases h.2 with hn | ⟨g, cap, cur, rfl, hb, hgg, rest⟩
  · exact .inl hn
  · exact .inr ⟨g, cap, cur, rfl, hb, (hk g rfl).trans hgg, rest⟩
theorem owns_type {w : World} {base : Nat} {e : TypeId} {size n : Nat} {v : Value} {xs : List Value} (h : w.ownsRow base e size v n xs) {k : Nat} (hk : v.ownBlock = some k) : ∃ cur, w.heap[k]? = some (.cells cur e (0, 0)) := by
  rcases h.2 with ⟨rfl, _⟩ | ⟨g, cap, cur, rfl, hb, hgg, rest⟩
  · cases hk
  · cases hk
    exact ⟨cur, hgg⟩

theorem owns_to {w w' : World} {b : Nat} {e : TypeId} {size n : Nat} {v : Value} {xs : List Value} (h : w.ownsRow b e size v n xs) (hb : Below w.heap.size w w') : w'.ownsRow b e size v n xs := owns_at h fun k hk => hb.block k (h.lt k hk).2
theorem owns_form {w : World} {base : Nat} {e : TypeId} {size n : Nat} {v : Value} {xs : List Value} (h : w.ownsRow base e size v n xs) : ∃ ao cap, v = .slice ao n cap := by
  rcases h.2 with ⟨rfl, rfl⟩ | ⟨g, cap, _, rfl, _⟩
  · exact ⟨_, _, rfl⟩
  · exact ⟨_, _, rfl⟩
theorem size_list (s : ByteArray) : s.data.toList.length = s.size := by simp
theorem list_at {s : ByteArray} {k : Nat} (h : k < s.size) : s.data.toList[k]? = some (s[k]'h) := by
  rw [List.getElem?_eq_getElem (by simpa using h)]
  rfl
def strs (l : List ByteArray) : List Value := l.map Value.string
end Go.Proofs.YtknfhphhcnbndaaGreatDoor.B

namespace Go.Proofs.YtknfhphhcnbndaaGreatDoor.B
open Go.RowKit

section
variable {P : Program} {ops : Array Oper} {Q : Exit → Act → World → Prop} {md : Region.Mode} {S : World → Prop} {z : Nat}

/-- In whatever order the rest comes up, all is well; S holds behind each operation but z. -/
def Till (P : Program) (md : Region.Mode) (ops : Array Oper) (Q : Exit → Act → World → Prop) (S : World → Prop) (z : Nat) : Nat → Array Bool → Act → World → Prop
  | 0 => fun up a w => Region.ready md ops up = [] ∧ Q .normal a w
  | n + 1 => fun up a w => (Region.ready md ops up = [] → Q .normal a w) ∧ ∀ i, i ∈ Region.ready md ops up → wpOp P ops Q i (fun a' w' => (i ≠ z → S w') ∧ Till P md ops Q S z n (up.setIfInBounds i true) a' w') a w
theorem Till.any : ∀ {n : Nat} {up : Array Bool} {a : Act} {w : World}, Till P md ops Q S z n up a w → wpAny P md ops Q n up a w
  | 0, _, _, _, h => h
  | n + 1, _, _, _, h => ⟨h.1, fun i hi => wpOp_mono (fun _ _ q => Till.any q.2) (h.2 i hi)⟩
theorem Till.region {id : Nat} {a : Act} {w : World} (hm : P.follows .mixedOrders = true) (hS : S w.drew) (h : S w.drew → Till P .any ops Q S z ops.size (Array.replicate ops.size false) a w.drew) : (Code.region id ops true).wp P Q a w :=
  wp_region_any hm (Till.any (h hS))
/-- Does z wait for i? -/
def waitsB (md : Region.Mode) (ops : Array Oper) (z i : Nat) : Bool := match ops[z]? with
  | some o => o.after.any fun e => Region.binds md e && e.on == i
  | none => false
theorem waits_not {i j : Nat} {up : Array Bool} (hz : waitsB md ops z i = true) (hi : i ∈ Region.ready md ops up) (hj : j ∈ Region.ready md ops up) : j ≠ z := by
  rintro rfl
  obtain ⟨_, o, ho, hall⟩ := mem_ready.1 hj
  unfold waitsB at hz
  rw [ho] at hz
  obtain ⟨e, he, hb⟩ := Array.any_eq_true'.1 hz
  simp only [Bool.and_eq_true, beq_iff_eq] at hb
  have h1 := hall e he hb.1
  rw [hb.2] at h1
  have h0 := (mem_ready.1 hi).1
  rcases Nat.lt_or_ge i up.size with q | q
  · simp [q] at h0 h1
    rw [h0] at h1
    cases h1
  · simp [Array.getElem?_eq_none q] at h1
theorem Till.front {i : Nat} {oi : Oper} {v : Value} (hi : ops[i]? = some oi) (hsel : ∀ (j : Nat) (o : Oper) cs b, ops[j]? = some o → o.op ≠ .select cs b) (hQ : ∀ c a w, Q (.panic c) (a.put oi.dst v) w → Q (.panic c) a w) (hz : waitsB md ops z i = true) :
    ∀ (n : Nat) (up : Array Bool) (a : Act) (w : World), (∀ j oj, ops[j]? = some oj → j ≠ i → up.getD j true = false → (∀ e ∈ oj.after, Region.binds md e = true → e.on ≠ i) → oi.apart ops oj = true) → i ∈ Region.ready md ops up → YieldsIf P ops S oi v a → S w →
      Till P md ops Q S z n (up.setIfInBounds i true) (a.put oi.dst v) w → Till P md ops Q S z (n + 1) up a w := by
  have one : ∀ {K : Act → World → Prop} {a : Act} {w : World}, YieldsIf P ops S oi v a → S w → K (a.put oi.dst v) w → wpOp P ops Q i K a w := fun hy hS hK => hy.wpOp hi hS hK
  have none : ∀ {up : Array Bool} {C : Prop}, i ∈ Region.ready md ops up → Region.ready md ops up = [] → C := fun hr h => by rw [h] at hr; cases hr
  intro n
  induction n with
  | zero =>
    intro up a w _ hr hy hS T
    refine ⟨none hr, fun j hj => ?_⟩
    rcases Classical.em (j = i) with e | e
    · rw [e]; exact one hy hS ⟨fun _ => hS, T⟩
    · have m := ready_mono (i := i) hj e
      rw [T.1] at m
      cases m
  | succ n ih =>
    intro up a w hfree hr hy hS T
    refine ⟨none hr, fun j hj => ?_⟩
    rcases Classical.em (j = i) with e | e
    · rw [e]; exact one hy hS ⟨fun _ => hS, T⟩
    · have hjz : j ≠ z := waits_not hz hr hj
      obtain ⟨hup, oj, hoj, hall⟩ := mem_ready.1 hj
      have hun : ∀ d ∈ oj.after, Region.binds md d = true → d.on ≠ i := fun d hd hb q => by
        have h1 := hall d hd hb
        rw [q] at h1
        have h0 := (mem_ready.1 hr).1
        rcases Nat.lt_or_ge i up.size with g | g
        · simp [g] at h0 h1
          rw [h0] at h1
          cases h1
        · simp [Array.getElem?_eq_none g] at h1
      have step := wpOp_putIf hoj (hfree j oj hoj e hup hun) (fun cs b => hsel i oi cs b hi) (fun cs b => hsel j oj cs b hoj) hQ hy (T.2 j (ready_mono hj e))
      refine wpOp_mono (fun a' w' q => ⟨fun _ => q.2.1 hjz, ih _ a' w' (fun k ok hk hki hku hkn => hfree k ok hk hki ?_ hkn) (ready_mono hr (Ne.symm e)) q.1 (q.2.1 hjz) ?_⟩) step
      · rcases Classical.em (j = k) with g | g
        · rw [← g]; exact hup
        · rw [getD_set_ne true g] at hku; exact hku
      · rw [Array.setIfInBounds_comm _ _ e]
        exact q.2.2
theorem Till.take {i : Nat} {oi : Oper} {v : Value} {n : Nat} {up : Array Bool} {a : Act} {w : World} (hi : ops[i]? = some oi) (hs : Region.noSelect ops = true) (hf : Region.free md ops up i = true) (hr : (Region.ready md ops up).contains i = true) (hz : waitsB md ops z i = true)
    (hQ : ∀ c a w, Q (.panic c) (a.put oi.dst v) w → Q (.panic c) a w) (hy : YieldsIf P ops S oi v a) (hS : S w) (h : Till P md ops Q S z n (up.setIfInBounds i true) (a.put oi.dst v) w) : Till P md ops Q S z (n + 1) up a w :=
  Till.front hi (Region.noSelect_spec hs) hQ hz n up a w (Region.free_spec hi hf) (by simpa using hr) hy hS h
theorem Till.next {i : Nat} {o : Oper} {n : Nat} {up : Array Bool} {a : Act} {w : World} (hr : Region.ready md ops up = [i]) (ho : ops[i]? = some o)
    (h : ∀ K : Act → World → Prop, Shut (∀ a w, (i ≠ z → S w) → Till P md ops Q S z n (up.setIfInBounds i true) a w → K a w) → if Region.wanted o (yielded ops a.tmps) = true then Oper.wp P o a w K Q else K (a.put o.dst undef) w) : Till P md ops Q S z (n + 1) up a w := by
  refine ⟨fun e => absurd e (by rw [hr]; exact List.cons_ne_nil _ _), fun j hj => ?_⟩
  rw [hr] at hj
  obtain rfl := List.mem_singleton.1 hj
  exact wpOp_step ho fun K hK => h K (fun a w hS hT => hK a w ⟨hS, hT⟩)
theorem Till.done {n : Nat} {up : Array Bool} {a : Act} {w : World} (hr : Region.ready md ops up = []) (h : Q .normal a w) : Till P md ops Q S z n up a w := by
  match n with
  | 0 => exact And.intro hr h
  | n + 1 =>
    refine ⟨fun _ => h, fun i hi => ?_⟩
    rw [hr] at hi
    cases hi
theorem Till.two {i j : Nat} {o o' : Oper} {n : Nat} {up : Array Bool} {a : Act} {w : World} (hr : Region.ready md ops up = [i, j]) (ho : ops[i]? = some o) (ho' : ops[j]? = some o')
    (h : ∀ K : Act → World → Prop, Shut (∀ a w, (i ≠ z → S w) → Till P md ops Q S z n (up.setIfInBounds i true) a w → K a w) → if Region.wanted o (yielded ops a.tmps) = true then Oper.wp P o a w K Q else K (a.put o.dst undef) w)
    (h' : ∀ K : Act → World → Prop, Shut (∀ a w, (j ≠ z → S w) → Till P md ops Q S z n (up.setIfInBounds j true) a w → K a w) → if Region.wanted o' (yielded ops a.tmps) = true then Oper.wp P o' a w K Q else K (a.put o'.dst undef) w) : Till P md ops Q S z (n + 1) up a w := by
  refine ⟨fun e => absurd e (by rw [hr]; exact List.cons_ne_nil _ _), fun k hk => ?_⟩
  rw [hr] at hk
  have hk2 : k = i ∨ k = j := by simpa using hk
  rcases hk2 with q | q
  · rw [q]; exact wpOp_step ho fun K hK => h K (fun a w hS hT => hK a w ⟨hS, hT⟩)
  · rw [q]; exact wpOp_step ho' fun K hK => h' K (fun a w hS hT => hK a w ⟨hS, hT⟩)
/-- As Till's, where S holds behind every operation. -/
theorem Till.frontA {i : Nat} {oi : Oper} {v : Value} (hi : ops[i]? = some oi) (hsel : ∀ (j : Nat) (o : Oper) cs b, ops[j]? = some o → o.op ≠ .select cs b) (hQ : ∀ c a w, Q (.panic c) (a.put oi.dst v) w → Q (.panic c) a w) (hz : ops[z]? = none) :
    ∀ (n : Nat) (up : Array Bool) (a : Act) (w : World), (∀ j oj, ops[j]? = some oj → j ≠ i → up.getD j true = false → (∀ e ∈ oj.after, Region.binds md e = true → e.on ≠ i) → oi.apart ops oj = true) → i ∈ Region.ready md ops up → YieldsIf P ops S oi v a → S w →
      Till P md ops Q S z n (up.setIfInBounds i true) (a.put oi.dst v) w → Till P md ops Q S z (n + 1) up a w := by
  have one : ∀ {K : Act → World → Prop} {a : Act} {w : World}, YieldsIf P ops S oi v a → S w → K (a.put oi.dst v) w → wpOp P ops Q i K a w := fun hy hS hK => hy.wpOp hi hS hK
  have none : ∀ {up : Array Bool} {C : Prop}, i ∈ Region.ready md ops up → Region.ready md ops up = [] → C := fun hr h => by rw [h] at hr; cases hr
  intro n
  induction n with
  | zero =>
    intro up a w _ hr hy hS T
    refine ⟨none hr, fun j hj => ?_⟩
    rcases Classical.em (j = i) with e | e
    · rw [e]; exact one hy hS ⟨fun _ => hS, T⟩
    · have m := ready_mono (i := i) hj e
      rw [T.1] at m
      cases m
  | succ n ih =>
    intro up a w hfree hr hy hS T
    refine ⟨none hr, fun j hj => ?_⟩
    rcases Classical.em (j = i) with e | e
    · rw [e]; exact one hy hS ⟨fun _ => hS, T⟩
    · obtain ⟨hup, oj, hoj, hall⟩ := mem_ready.1 hj
      have hjz : j ≠ z := fun q => by
        rw [q, hz] at hoj
        cases hoj
      have hun : ∀ d ∈ oj.after, Region.binds md d = true → d.on ≠ i := fun d hd hb q => by
        have h1 := hall d hd hb
        rw [q] at h1
        have h0 := (mem_ready.1 hr).1
        rcases Nat.lt_or_ge i up.size with g | g
        · simp [g] at h0 h1
          rw [h0] at h1
          cases h1
        · simp [Array.getElem?_eq_none g] at h1
      have step := wpOp_putIf hoj (hfree j oj hoj e hup hun) (fun cs b => hsel i oi cs b hi) (fun cs b => hsel j oj cs b hoj) hQ hy (T.2 j (ready_mono hj e))
      refine wpOp_mono (fun a' w' q => ⟨fun _ => q.2.1 hjz, ih _ a' w' (fun k ok hk hki hku hkn => hfree k ok hk hki ?_ hkn) (ready_mono hr (Ne.symm e)) q.1 (q.2.1 hjz) ?_⟩) step
      · rcases Classical.em (j = k) with g | g
        · rw [← g]; exact hup
        · rw [getD_set_ne true g] at hku; exact hku
      · rw [Array.setIfInBounds_comm _ _ e]
        exact q.2.2
theorem Till.takeA {i : Nat} {oi : Oper} {v : Value} {n : Nat} {up : Array Bool} {a : Act} {w : World} (hi : ops[i]? = some oi) (hs : Region.noSelect ops = true) (hf : Region.free md ops up i = true) (hr : (Region.ready md ops up).contains i = true) (hz : ops[z]? = none)
    (hQ : ∀ c a w, Q (.panic c) (a.put oi.dst v) w → Q (.panic c) a w) (hy : YieldsIf P ops S oi v a) (hS : S w) (h : Till P md ops Q S z n (up.setIfInBounds i true) (a.put oi.dst v) w) : Till P md ops Q S z (n + 1) up a w :=
  Till.frontA hi (Region.noSelect_spec hs) hQ hz n up a w (Region.free_spec hi hf) (by simpa using hr) hy hS h
end

section
variable {P : Program} {w : World}
end
end Go.Proofs.YtknfhphhcnbndaaGreatDoor.B

namespace Go.Proofs.YtknfhphhcnbndaaGreatDoor.B
open Go.RowKit

/-! ### cells, member by member -/
def cellsC {α : Type} (f : α → List Value) : List α → List Value
  | [] => []
  | x :: r => f x ++ cellsC f r
section
variable {α : Type} {f : α → List Value} {k : Nat}
theorem cellsC_len (hk : ∀ x, (f x).length = k) : ∀ l, (cellsC f l).length = l.length * k
  | [] => by simp [cellsC]
  | x :: r => by rw [cellsC, List.length_append, hk, cellsC_len hk r, List.length_cons, Nat.add_mul]; omega
theorem cellsC_app : ∀ a b, cellsC f (a ++ b) = cellsC f a ++ cellsC f b
  | [], b => rfl
  | x :: r, b => by rw [List.cons_append, cellsC, cellsC, cellsC_app r b, List.append_assoc]
theorem cellsC_one (x : α) : cellsC f [x] = f x := by rw [cellsC, cellsC, List.append_nil]
theorem cellsC_get (hk : ∀ x, (f x).length = k) : ∀ (l : List α) (i j : Nat) (x : α), l[i]? = some x → j < k → (cellsC f l)[i * k + j]? = (f x)[j]?
  | [], i, j, x, h, _ => by simp at h
  | y :: r, 0, j, x, h, hj => by
    obtain rfl : y = x := by simpa using h
    rw [cellsC, Nat.zero_mul, Nat.zero_add, List.getElem?_append_left (by rw [hk]; exact hj)]
  | y :: r, i + 1, j, x, h, hj => by
    have h' : r[i]? = some x := by simpa using h
    rw [cellsC, List.getElem?_append_right (by rw [hk, Nat.add_mul]; omega), hk, show (i + 1) * k + j - k = i * k + j by rw [Nat.add_mul]; omega]
    exact cellsC_get hk r i j x h' hj
theorem cellsC_inv (hk : ∀ x, (f x).length = k) : ∀ (l : List α) (n : Nat) (u : Value), (cellsC f l)[n]? = some u → ∃ i j x, l[i]? = some x ∧ n = i * k + j ∧ (f x)[j]? = some u
  | [], n, u, h => by simp [cellsC] at h
  | y :: r, n, u, h => by
    rw [cellsC] at h
    by_cases q : n < k
    · rw [List.getElem?_append_left (by rw [hk]; exact q)] at h
      exact ⟨0, n, y, rfl, by omega, h⟩
    · rw [List.getElem?_append_right (by rw [hk]; omega), hk] at h
      obtain ⟨i, j, x, h1, h2, h3⟩ := cellsC_inv hk r (n - k) u h
      exact ⟨i + 1, j, x, by simpa using h1, by rw [Nat.add_mul]; omega, h3⟩
theorem cellsC_mem {P : Value → Prop} : ∀ (l : List α), (∀ x ∈ l, ∀ u ∈ f x, P u) → ∀ u ∈ cellsC f l, P u
  | [], _, u, hu => by cases hu
  | x :: r, h, u, hu => by
    rcases List.mem_append.1 hu with hu | hu
    · exact h x List.mem_cons_self u hu
    · exact cellsC_mem r (fun y hy => h y (List.mem_cons_of_mem _ hy)) u hu

/-! ### a slice's members -/
/-- The slice at a holds these, k cells each. -/
def RowL (k : Nat) (f : α → List Value) (w : World) (a : Option Addr) (l : List α) : Prop := l = [] ∨ ∃ g o, a = some ⟨g, o, none⟩ ∧ g < w.heap.size ∧ ∀ (i : Nat) (x : α), l[i]? = some x → w.rangeAt g (o + i * k) (f x)
theorem RowL.nil (w : World) (a : Option Addr) : RowL k f w a [] := .inl rfl
theorem RowL.keep {w w' : World} {a : Option Addr} {l : List α} (h : RowL k f w a l) (hb : Below w.heap.size w w') : RowL k f w' a l := by
  rcases h with h | ⟨g, o, h1, h0, h2⟩
  · exact .inl h
  · exact .inr ⟨g, o, h1, Nat.lt_of_lt_of_le h0 hb.size, fun i x hx j v hj => (hb.cell (p := ⟨g, _, none⟩) h0).trans (h2 i x hx j v hj)⟩
theorem RowL.at_ {w : World} {a : Option Addr} {l : List α} (h : RowL k f w a l) {i : Nat} {x : α} (hx : l[i]? = some x) : ∃ g o, a = some ⟨g, o, none⟩ ∧ g < w.heap.size ∧ w.rangeAt g (o + i * k) (f x) := by
  rcases h with h | ⟨g, o, h1, h0, h2⟩
  · rw [h] at hx; simp at hx
  · exact ⟨g, o, h1, h0, h2 i x hx⟩
theorem RowL.drop {w : World} {a : Option Addr} {l : List α} (h : RowL k f w a l) (i : Nat) (hi : i < l.length) : ∃ g o, a = some ⟨g, o, none⟩ ∧ RowL k f w (some ⟨g, o + i * k, none⟩) (l.drop i) := by
  rcases h with h | ⟨g, o, h1, h0, h2⟩
  · rw [h] at hi; simp at hi
  · refine ⟨g, o, h1, .inr ⟨g, o + i * k, rfl, h0, fun j x hx => ?_⟩⟩
    rw [List.getElem?_drop] at hx
    have := h2 (i + j) x hx
    rw [Nat.add_mul, ← Nat.add_assoc] at this
    exact this
theorem RowL.tail {w : World} {a : Option Addr} {x : α} {l : List α} (h : RowL k f w a (x :: l)) : ∃ g o, a = some ⟨g, o, none⟩ ∧ g < w.heap.size ∧ w.rangeAt g o (f x) ∧ RowL k f w (some ⟨g, o + k, none⟩) l := by
  rcases h with h | ⟨g, o, h1, h0, h2⟩
  · cases h
  · refine ⟨g, o, h1, h0, ?_, .inr ⟨g, o + k, rfl, h0, fun i y hy => ?_⟩⟩
    · have := h2 0 x rfl
      rwa [Nat.zero_mul, Nat.add_zero] at this
    · have := h2 (i + 1) y (by simpa using hy)
      rwa [show o + (i + 1) * k = o + k + i * k by rw [Nat.add_mul]; omega] at this
theorem RowL.of_owns {w : World} {base : Nat} {e : TypeId} {v : Value} {l : List α} (hk : ∀ x, (f x).length = k) (h : w.ownsRow base e k v l.length (cellsC f l)) : ∃ a cap, v = .slice a l.length cap ∧ RowL k f w a l ∧ l.length ≤ cap ∧ cap ≤ maxLen ∧ (a = none → cap = 0) := by
  rcases h.2 with ⟨rfl, h0⟩ | ⟨g, cap, cur, rfl, hb, hg, hnc, hcm, hcs, ht⟩
  · exact ⟨none, 0, by rw [h0], .inl (List.eq_nil_of_length_eq_zero h0), by omega, by unfold maxLen; omega, fun _ => rfl⟩
  · refine ⟨_, cap, rfl, .inr ⟨g, 0, rfl, heap_lt hg, fun i x hx j v hj => ?_⟩, hnc, hcm, fun q => by cases q⟩
    have hjk : j < k := by rw [← hk x]; exact (List.getElem?_eq_some_iff.1 hj).1
    rw [Nat.zero_add]
    refine owns_cell (n := l.length) (cap := cap) h ?_
    rw [cellsC_get hk l i j x hx hjk]
    exact hj
/-- The cells behind a slice's address, one by one. -/
theorem RowL.cells {w : World} {g o : Nat} {l : List α} (hk : ∀ x, (f x).length = k) (h : RowL k f w (some ⟨g, o, none⟩) l) : ∀ j u, (cellsC f l)[j]? = some u → w.cell? ((⟨g, o, none⟩ : Addr).add j) = some u := by
  intro n u hu
  obtain ⟨i, j, x, h1, rfl, h3⟩ := cellsC_inv hk l n u hu
  obtain ⟨g', o', e, _, hr⟩ := h.at_ h1
  simp only [Option.some.injEq, Addr.mk.injEq] at e
  obtain ⟨rfl, rfl, _⟩ := e
  rw [Addr.add_mid, ← Nat.add_assoc]
  exact hr j u h3
end

/-! ### append, with all members of a slice behind -/
section
variable {P : Program} {w : World} {α : Type} {f : α → List Value} {k : Nat}
theorem wp_append_rowL {o : Oper} {a : Act} {K : Act → World → Prop} {Q : Exit → Act → World → Prop} (s x : Operand) (t : TypeId)
    (ho : o.op = .call { callee := .builtin .append, args := #[s, x], argTypes := #[t, t] })
    (base : Nat) (e : TypeId) (i : TypeInfo) (z : Value) (bytes : Nat) (ht : P.underlying t = some (.slice e)) (hi : P.info? e = some i) (hz : i.zero = some z)
    (hsize : i.size = k) (hby : i.bytes = bytes) (hzs : z.cells.size = k) (hsz : 0 < k) (hk : ∀ x, (f x).length = k) (h1 : ∀ x, ∀ u ∈ f x, u.oneCell' = true)
    (v : Value) (n : Nat) (xs : List Value) (hs : a.eval s = v) (hown : w.ownsRow base e k v n xs) (la : Option Addr) (lc : Nat) (l : List α) (hx : a.eval x = .slice la l.length lc) (hsrc : RowL k f w la l) (hnil : la = none → lc = 0)
    (h63 : n + l.length ≤ maxLen) (hbytes : (n + l.length) * bytes ≤ 140737488355328) (hbase : base ≤ w.heap.size)
    (h : ∀ ao cp w', w'.ownsRow base e k (.slice ao (n + l.length) cp) (n + l.length) (xs ++ cellsC f l) → w.grownBy w' v.ownBlock → K (a.put o.dst (.slice ao (n + l.length) cp)) w') : o.wp P a w K Q := by
  cases la with
  | none =>
    obtain rfl := hnil rfl
    obtain rfl : l = [] := by
      rcases hsrc with q | ⟨g, o, q, _⟩
      · exact q
      · cases q
    obtain ⟨ao, cp, rfl⟩ := owns_form hown
    have hrun := run_append_owned_none (P := P) (w := w) base t o.type e i k ht hi _ n xs hown
    unfold Oper.wp
    simp [execOp, ho, resolve, invoke, builtin, hs, hx, hrun, Result.andThen]
    exact h ao cp w (by simpa [cellsC] using hown) ⟨rfl, rfl, rfl, Nat.le_refl _, fun _ _ _ => rfl⟩
  | some ad =>
    have hcells : ∀ j u, (cellsC f l)[j]? = some u → w.cell? (ad.add j) = some u := by
      rcases hsrc with rfl | ⟨g, o', q, q2⟩
      · intro j u hu; simp [cellsC] at hu
      · obtain rfl := Option.some.inj q
        exact RowL.cells hk (.inr ⟨g, o', rfl, q2⟩)
    refine wp_append_own w s x t ho base e i z k bytes ht hi hz hsize hby hzs hsz v n xs hs hown ad l.length lc (cellsC f l) hx (cellsC_len hk l) hcells (cellsC_mem l fun x _ => h1 x) h63 hbytes hbase (fun v' w' p q _ => ?_)
    obtain ⟨ao, cp, rfl⟩ := owns_form p
    exact h ao cp w' p q
theorem step_append_rowL {ops : Array Oper} {o : Oper} {a : Act} {K : Act → World → Prop} {Q : Exit → Act → World → Prop} {E : Prop} (hgd : o.guard = none) (s x : Operand) (t : TypeId)
    (ho : o.op = .call { callee := .builtin .append, args := #[s, x], argTypes := #[t, t] })
    (base : Nat) (e : TypeId) (i : TypeInfo) (z : Value) (bytes : Nat) (ht : P.underlying t = some (.slice e)) (hi : P.info? e = some i) (hz : i.zero = some z)
    (hsize : i.size = k) (hby : i.bytes = bytes) (hzs : z.cells.size = k) (hsz : 0 < k) (hk : ∀ x, (f x).length = k) (h1 : ∀ x, ∀ u ∈ f x, u.oneCell' = true)
    (v : Value) (n : Nat) (xs : List Value) (hs : a.eval s = v) (hown : w.ownsRow base e k v n xs) (la : Option Addr) (lc : Nat) (l : List α) (hx : a.eval x = .slice la l.length lc) (hsrc : RowL k f w la l) (hnil : la = none → lc = 0)
    (h63 : n + l.length ≤ maxLen) (hbytes : (n + l.length) * bytes ≤ 140737488355328) (hbase : base ≤ w.heap.size)
    (h : ∀ ao cp w', w'.ownsRow base e k (.slice ao (n + l.length) cp) (n + l.length) (xs ++ cellsC f l) → w.grownBy w' v.ownBlock → K (a.put o.dst (.slice ao (n + l.length) cp)) w') :
    if Region.wanted o (yielded ops a.tmps) = true then Oper.wp P o a w K Q else E := by
  have hw : Region.wanted o (yielded ops a.tmps) = true := by simp [Region.wanted, hgd]
  rw [if_pos hw]
  exact wp_append_rowL s x t ho base e i z bytes ht hi hz hsize hby hzs hsz hk h1 v n xs hs hown la lc l hx hsrc hnil h63 hbytes hbase h
end

/-! ### texts -/
def txC (s : ByteArray) : List Value := [.string s]
theorem txC_len (s : ByteArray) : (txC s).length = 1 := rfl
theorem txC_one (s : ByteArray) : ∀ u ∈ txC s, u.oneCell' = true := fun u hu => by
  obtain rfl : u = .string s := by simpa [txC] using hu
  rfl
theorem txC_strs : ∀ l, cellsC txC l = strs l
  | [] => rfl
  | x :: r => by rw [cellsC, txC_strs r]; rfl
theorem strs_app (a b : List ByteArray) : strs (a ++ b) = strs a ++ strs b := List.map_append
/-- The slice at a holds these texts. -/
abbrev TxtL (w : World) (a : Option Addr) (l : List ByteArray) : Prop := RowL 1 txC w a l
end Go.Proofs.YtknfhphhcnbndaaGreatDoor.B

namespace Go.Proofs.YtknfhphhcnbndaaGreatDoor.B
open Go.RowKit

theorem setCells_nil (w : World) (b o : Nat) : w.setCells b o [] = w := rfl
theorem setCells_cons (w : World) (b o : Nat) (v : Value) (r : List Value) : w.setCells b o (v :: r) = (w.setCell ⟨b, o, none⟩ v).setCells b (o + 1) r := rfl
theorem heap_setCells_ne (b : Nat) {i : Nat} (hne : i ≠ b) : ∀ (vs : List Value) (o : Nat) (w : World), (w.setCells b o vs).heap[i]? = w.heap[i]?
  | [], o, w => rfl
  | v :: r, o, w => by rw [setCells_cons, heap_setCells_ne b hne r, heap_setCell_other _ _ _ _ hne]
theorem below_cells {B : Nat} {w0 : World} (b : Nat) (hb : B ≤ b) : ∀ (vs : List Value) (o : Nat) (w : World), Below B w0 w → Below B w0 (w.setCells b o vs)
  | [], o, w, h => h
  | v :: r, o, w, h => by rw [setCells_cons]; exact below_cells b hb r (o + 1) _ (h.setCell (p := ⟨b, o, none⟩) hb v)
theorem owns_setCells {base : Nat} {e : TypeId} {size g n cap : Nat} : ∀ (vs : List Value) (o : Nat) (w : World) (xs : List Value), w.ownsRow base e size (.slice (some ⟨g, 0, none⟩) n cap) n xs → o + vs.length ≤ xs.length →
    (w.setCells g o vs).ownsRow base e size (.slice (some ⟨g, 0, none⟩) n cap) n (xs.take o ++ vs ++ xs.drop (o + vs.length))
  | [], o, w, xs, h, _ => by rw [setCells_nil, List.append_nil, List.length_nil, Nat.add_zero, List.take_append_drop]; exact h
  | v :: r, o, w, xs, h, hl => by
    rw [List.length_cons] at hl
    have h1 := owns_setCell h (j := o) (by omega) v
    have h2 := owns_setCells r (o + 1) _ _ h1 (by rw [List.length_set]; omega)
    rw [setCells_cons]
    have e : (xs.set o v).take (o + 1) ++ r ++ (xs.set o v).drop (o + 1 + r.length) = xs.take o ++ (v :: r) ++ xs.drop (o + (v :: r).length) := by
      rw [List.drop_set_of_lt (by omega), List.take_set, List.length_cons, show o + 1 + r.length = o + (r.length + 1) by omega]
      have : (xs.take (o + 1)).set o v = xs.take o ++ [v] := by
        rw [List.take_succ_eq_append_getElem (by omega), List.set_append_right _ _ (by rw [List.length_take]; omega), List.length_take, show o - min o xs.length = 0 by omega]
        rfl
      rw [this, List.append_assoc, List.append_assoc, List.append_assoc]
      rfl
    rwa [e] at h2
section
variable {α : Type} {f : α → List Value} {k : Nat}
theorem cellsC_splice (hk : ∀ x, (f x).length = k) (x : α) : ∀ (Z : List α) (i : Nat), i < Z.length → (cellsC f Z).take (i * k) ++ f x ++ (cellsC f Z).drop (i * k + k) = cellsC f (Z.set i x)
  | [], i, h => by simp at h
  | y :: r, 0, _ => by
    rw [Nat.zero_mul, Nat.zero_add, List.take_zero, List.nil_append, cellsC, List.drop_append_of_le_length (by rw [hk]; exact Nat.le_refl _), List.drop_of_length_le (by rw [hk]; exact Nat.le_refl _), List.nil_append, List.set_cons_zero, cellsC]
  | y :: r, i + 1, h => by
    have ih := cellsC_splice hk x r i (by simpa using h)
    rw [List.set_cons_succ, cellsC, cellsC, ← ih, show (i + 1) * k = k + i * k by rw [Nat.add_mul]; omega, List.take_append, hk, List.take_of_length_le (by rw [hk]; omega), Nat.add_sub_cancel_left, Nat.add_assoc, List.drop_append, hk, List.drop_of_length_le (by rw [hk]; omega), List.nil_append, Nat.add_sub_cancel_left]
    simp
theorem owns_put {w : World} {base : Nat} {e : TypeId} {g n cap : Nat} {Z : List α} (hk : ∀ x, (f x).length = k) (h : w.ownsRow base e k (.slice (some ⟨g, 0, none⟩) n cap) n (cellsC f Z)) {i : Nat} (hi : i < Z.length) (x : α) :
    (w.setCells g (i * k) (f x)).ownsRow base e k (.slice (some ⟨g, 0, none⟩) n cap) n (cellsC f (Z.set i x)) := by
  have hl : i * k + k ≤ (cellsC f Z).length := by
    rw [cellsC_len hk]
    have : (i + 1) * k ≤ Z.length * k := Nat.mul_le_mul_right _ (by omega)
    rw [Nat.add_mul] at this
    omega
  have h1 := owns_setCells (f x) (i * k) w _ h (by rw [hk]; exact hl)
  rw [hk, cellsC_splice hk x Z i hi] at h1
  exact h1
theorem owns_there {w : World} {base : Nat} {e : TypeId} {g n cap : Nat} {Z : List α} (hk : ∀ x, (f x).length = k) (h : w.ownsRow base e k (.slice (some ⟨g, 0, none⟩) n cap) n (cellsC f Z)) {i : Nat} (hi : i < Z.length) : w.there g (i * k) k := fun j hj => by
  refine ⟨?_, owns_frozen h _⟩
  have hl : i * k + j < (cellsC f Z).length := by
    rw [cellsC_len hk]
    have : (i + 1) * k ≤ Z.length * k := Nat.mul_le_mul_right _ (by omega)
    rw [Nat.add_mul] at this
    omega
  rw [owns_cell h (List.getElem?_eq_getElem hl)]
  rfl
/-- A row of as many zeros. -/
theorem made_cells {z : Array Value} (hz : z.size = k) (x : α) (hx : f x = z.toList) (h0 : 0 < k) : ∀ n : Nat, (madeCells z (n * k)).toList = cellsC f (List.replicate n x)
  | 0 => by rw [Nat.zero_mul]; simp [madeCells, cellsC]
  | n + 1 => by
    have ih := made_cells hz x hx h0 n
    rw [List.replicate_succ', cellsC_app, cellsC_one, ← ih, hx]
    unfold madeCells
    rw [Array.toList_map, Array.toList_map, Array.toList_range, Array.toList_range, show (n + 1) * k = n * k + k by rw [Nat.add_mul]; omega, List.range_add, List.map_append]
    congr 1
    rw [List.map_map]
    apply List.ext_getElem?
    intro j
    rw [List.getElem?_map]
    by_cases hj : j < k
    · rw [List.getElem?_range hj, Option.map_some, Array.getElem?_toList]
      show some (z[(n * k + j) % z.size]!) = _
      rw [hz, show (n * k + j) % k = j by rw [Nat.mul_comm, Nat.mul_add_mod, Nat.mod_eq_of_lt hj]]
      rw [getElem!_pos z j (by omega), Array.getElem?_eq_getElem (by omega)]
    · rw [List.getElem?_eq_none (by rw [List.length_range]; omega), Array.getElem?_toList, Array.getElem?_eq_none (by omega)]
      rfl
end
/-- The first i members set, zeros behind. -/
def setsL {α : Type} (l : List α) (z : α) (i : Nat) : List α := l.take i ++ List.replicate (l.length - i) z
theorem sets_len {α : Type} {l : List α} {z : α} {i : Nat} (h : i ≤ l.length) : (setsL l z i).length = l.length := by
  unfold setsL
  rw [List.length_append, List.length_take, List.length_replicate]
  omega
theorem sets_zero {α : Type} (l : List α) (z : α) : setsL l z 0 = List.replicate l.length z := by
  unfold setsL
  rw [List.take_zero, List.nil_append, Nat.sub_zero]
theorem sets_all {α : Type} (l : List α) (z : α) : setsL l z l.length = l := by
  unfold setsL
  rw [List.take_length, Nat.sub_self]
  exact List.append_nil _
theorem sets_step {α : Type} {l : List α} {z : α} {i : Nat} {x : α} (h : l[i]? = some x) : (setsL l z i).set i x = setsL l z (i + 1) := by
  obtain ⟨hi, hx⟩ := List.getElem?_eq_some_iff.1 h
  unfold setsL
  obtain ⟨k, hk⟩ : ∃ k, l.length = i + 1 + k := ⟨l.length - (i + 1), by omega⟩
  rw [hk, show i + 1 + k - i = k + 1 by omega, show i + 1 + k - (i + 1) = k by omega, List.replicate_succ, List.set_append_right _ _ (by rw [List.length_take]; omega), List.length_take, show i - min i l.length = 0 by omega, List.set_cons_zero, List.take_succ_eq_append_getElem hi, hx, List.append_assoc]
  rfl
/-- A store of several cells, at a step of a region that draws its order. -/
theorem step_store_mid {P : Program} {ops : Array Oper} {o : Oper} {a : Act} {w : World} {K : Act → World → Prop} {Q : Exit → Act → World → Prop} {E : Prop} (hgd : o.guard = none) (ty : TypeId) (x y : Operand) (ho : o.op = .store ty x y)
    (b off : Nat) (cells : Array Value) (hx : a.eval x = .pointer (some ⟨b, off, none⟩)) (hy : a.eval y = .agg cells)
    (ht : w.there b off cells.size) (hi : (P.info? ty).map (·.size) = some cells.size) (h1 : cells.all (·.oneCell') = true)
    (h : K (a.put o.dst undef) (w.setCells b off cells.toList)) : if Region.wanted o (yielded ops a.tmps) = true then Oper.wp P o a w K Q else E := by
  have hw : Region.wanted o (yielded ops a.tmps) = true := by simp [Region.wanted, hgd]
  rw [if_pos hw]
  exact wp_store_mid ty x y ho b off cells hx hy ht hi h1 h
theorem owns_low {w : World} {b c : Nat} {e : TypeId} {size n : Nat} {v : Value} {xs : List Value} (h : w.ownsRow b e size v n xs) (hc : c ≤ b) : w.ownsRow c e size v n xs := by
  refine ⟨h.1, ?_⟩
  rcases h.2 with q | ⟨g, cap, cur, q1, q2, q3⟩
  · exact .inl q
  · exact .inr ⟨g, cap, cur, q1, Nat.le_trans hc q2, q3⟩
theorem two_new (w : World) (a b : Obj) : ((w.alloc a).alloc b).heap[w.heap.size]? = some a ∧ ((w.alloc a).alloc b).heap[w.heap.size + 1]? = some b := by
  have s1 : (w.alloc a).heap.size = w.heap.size + 1 := by simp
  refine ⟨?_, ?_⟩
  · rw [heap_alloc_old _ _ (by omega)]
    exact heap_alloc_new _ _
  · rw [← s1]
    exact heap_alloc_new _ _
end Go.Proofs.YtknfhphhcnbndaaGreatDoor.B

namespace Go.Proofs.YtknfhphhcnbndaaGreatDoor.B
open Go.RowKit
theorem rangeB {w : World} {b : Nat} {cs : List Value} {t : TypeId} {fr : Nat × Nat} (h : w.heap[b]? = some (.cells cs.toArray t fr)) : w.rangeAt b 0 cs := fun j v hv => by
  rw [cell_of_row _ _ _ _ _ _ h, Nat.zero_add]
  simpa using hv
section
variable {P : Program} {ops : Array Oper} {Q : Exit → Act → World → Prop} {md : Region.Mode} {S : World → Prop} {z : Nat}
theorem Till.ty (i : Nat) {oi : Oper} (v : Value) {n : Nat} {up : Array Bool} {a : Act} {w : World} (hi : ops[i]? = some oi) (hy : YieldsIf P ops S oi v a) (h : Till P md ops Q S z n (up.setIfInBounds i true) (a.put oi.dst v) w) (hs : Region.noSelect ops = true := by kernel_rfl) (hf : Region.free md ops up i = true := by kernel_rfl) (hr : (Region.ready md ops up).contains i = true := by kernel_rfl) (hz : ops[z]? = none := by kernel_rfl)
    (hQ : ∀ c a w, Q (.panic c) (a.put oi.dst v) w → Q (.panic c) a w := by exact fun _ _ _ h => h) (hS : S w := by assumption) : Till P md ops Q S z (n + 1) up a w := Till.takeA hi hs hf hr hz hQ hy hS h
theorem Till.tk (i : Nat) {oi : Oper} (v : Value) {n : Nat} {up : Array Bool} {a : Act} {w : World} (hi : ops[i]? = some oi) (hy : ∀ w0, S w0 → (execOp a.eval oi).run P w0 = .ok (.value v) w0) (h : Till P md ops Q S z n (up.setIfInBounds i true) (a.put oi.dst v) w) (hw : Region.wanted oi (yielded ops a.tmps) = true := by rfl) (hs : Region.noSelect ops = true := by kernel_rfl) (hf : Region.free md ops up i = true := by kernel_rfl) (hr : (Region.ready md ops up).contains i = true := by kernel_rfl) (hz : ops[z]? = none := by kernel_rfl)
    (hQ : ∀ c a w, Q (.panic c) (a.put oi.dst v) w → Q (.panic c) a w := by exact fun _ _ _ h => h) (hS : S w := by assumption) : Till P md ops Q S z (n + 1) up a w := Till.takeA hi hs hf hr hz hQ (Or.inl ⟨hw, hy⟩) hS h
theorem Till.tz (i : Nat) {oi : Oper} (v : Value) {n : Nat} {up : Array Bool} {a : Act} {w : World} (hi : ops[i]? = some oi) (hy : ∀ w0, S w0 → (execOp a.eval oi).run P w0 = .ok (.value v) w0) (h : Till P md ops Q S z n (up.setIfInBounds i true) (a.put oi.dst v) w) (hw : Region.wanted oi (yielded ops a.tmps) = true := by rfl) (hs : Region.noSelect ops = true := by kernel_rfl) (hf : Region.free md ops up i = true := by kernel_rfl) (hr : (Region.ready md ops up).contains i = true := by kernel_rfl) (hz : waitsB md ops z i = true := by kernel_rfl)
    (hQ : ∀ c a w, Q (.panic c) (a.put oi.dst v) w → Q (.panic c) a w := by exact fun _ _ _ h => h) (hS : S w := by assumption) : Till P md ops Q S z (n + 1) up a w := Till.take hi hs hf hr hz hQ (Or.inl ⟨hw, hy⟩) hS h
theorem Till.yz (i : Nat) {oi : Oper} (v : Value) {n : Nat} {up : Array Bool} {a : Act} {w : World} (hi : ops[i]? = some oi) (hy : YieldsIf P ops S oi v a) (h : Till P md ops Q S z n (up.setIfInBounds i true) (a.put oi.dst v) w) (hs : Region.noSelect ops = true := by kernel_rfl) (hf : Region.free md ops up i = true := by kernel_rfl) (hr : (Region.ready md ops up).contains i = true := by kernel_rfl) (hz : waitsB md ops z i = true := by kernel_rfl)
    (hQ : ∀ c a w, Q (.panic c) (a.put oi.dst v) w → Q (.panic c) a w := by exact fun _ _ _ h => h) (hS : S w := by assumption) : Till P md ops Q S z (n + 1) up a w := Till.take hi hs hf hr hz hQ hy hS h
theorem Till.tn (i : Nat) {o : Oper} {n : Nat} {up : Array Bool} {a : Act} {w : World} (ho : ops[i]? = some o)
    (h : ∀ K : Act → World → Prop, Shut (∀ a w, (i ≠ z → S w) → Till P md ops Q S z n (up.setIfInBounds i true) a w → K a w) → if Region.wanted o (yielded ops a.tmps) = true then Oper.wp P o a w K Q else K (a.put o.dst undef) w) (hr : Region.ready md ops up = [i] := by kernel_rfl) : Till P md ops Q S z (n + 1) up a w := Till.next hr ho h
end
end Go.Proofs.YtknfhphhcnbndaaGreatDoor.B
