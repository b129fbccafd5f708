/-
  What walks of later layers lean on: rows that a call has made, as they lie in memory. Conditions: each fact's own.
  A region that draws its order, whose operation number z waits for others and may write what they read: what is said of the world (S) holds till z comes up, and no longer; and what append does with a row behind it (stage 6's texts, apart from file systems). Conditions: each law's own.
  Rows whose members are of several cells each: what came in, and what a call has made. Conditions: each fact's own.
  Members of several cells stored into a row that a call has made; rows of zeros; what growth keeps. Conditions: each fact's own.
  Rows as they lie in memory, read whole or in part; what several new blocks keep; rows of different types lie apart. Conditions: each fact's own.
  Plain facts on formats, ahead of stage 5: a format written directive by directive; one behind the other; how long it gets; numbers in two and three digits. Conditions: none.
  What a fact's format tells of a node: directive by directive. Conditions: none.
-/
import Derived.Test.YtigkdehaepenhaaGreatDoorRows
import Derived.WalkKit
import Derived.WalkSpells
import Derived.WalkLawsBesides
import Derived.OwnWalk
import Derived.Lib.Hide
import Derived.Lib.OthersKept
import Derived.Laws.AppendOwn
import Derived.Deep.QuietTactic
import Derived.BigQuiet
import Derived.Deep.CutRange
import Derived.Deep.MidRow
import Derived.Deep.RegionHeld3
import Derived.Laws.AppendOwnNone
import Derived.Deep.AppendLies
import Derived.Lib.ItoaNum
import Derived.Test.YtigkdehaepenhaaGreatDoorKPText
import Derived.Lib.IndexLaws
import Derived.Lib.ItoaLen
import Derived.Test.YtigkdehaepenhaaGreatDoorKFormat
set_option linter.unusedSimpArgs false
set_option linter.unusedVariables false
namespace Go.Proofs.YtigkdehaepenhaaGreatDoor.B
open Go.RowKit

theorem ret_int {k : IntKind} {a b : Int} (h : a = b) : Ending.returned (.int k a) = .returned (.int k b) := by rw [h]
theorem ret_bool {a b : Bool} (h : a = b) : Ending.returned (.bool a) = .returned (.bool b) := by rw [h]
theorem below_two {w a b : World} (h : Below w.heap.size w a) (k : Below a.heap.size a b) : Below w.heap.size w b := h.trans (k.mono h.size)
theorem below_drewNb {B n : Nat} {w w' : World} (hb : Below B w w') : Below B w (w'.drewN n) := ⟨hb.os, hb.tape, hb.output, hb.size, hb.block⟩
theorem heap_lt {w : World} {k : Nat} {o : Obj} (h : w.heap[k]? = some o) : k < w.heap.size := by
  apply Classical.byContradiction
  intro hn
  rw [Array.getElem?_eq_none (by omega)] at h
  cases h

theorem owns_setCell {w : World} {base : Nat} {e : TypeId} {size g n cap : Nat} {xs : List Value} (h : w.ownsRow base e size (.slice (some ⟨g, 0, none⟩) n cap) n xs) {j : Nat} (hj : j < xs.length) (u : Value) :
    (w.setCell ⟨g, j, none⟩ u).ownsRow base e size (.slice (some ⟨g, 0, none⟩) n cap) n (xs.set j u) := by
  obtain ⟨hl, h⟩ := h
  refine ⟨by rw [List.length_set]; exact hl, ?_⟩
  rcases h with ⟨h, _⟩ | ⟨g', cap', cur, hv, hb, hg, hnc, hcm, hcs, ht⟩
  · cases h
  · simp only [Value.slice.injEq, Option.some.injEq, Addr.mk.injEq] at hv
    obtain ⟨⟨rfl, _, _⟩, _, rfl⟩ := hv
    refine .inr ⟨g, cap, cur.setIfInBounds j u, rfl, hb, heap_setCell_same w g j cur e u hg, hnc, hcm, by rw [Array.size_setIfInBounds]; exact hcs, ?_⟩
    rw [Array.toList_setIfInBounds, List.take_set, ht]
theorem owns_frozen {w : World} {base : Nat} {e : TypeId} {size g n cap : Nat} {xs : List Value} (h : w.ownsRow base e size (.slice (some ⟨g, 0, none⟩) n cap) n xs) (j : Nat) : w.frozen? ⟨g, j, none⟩ = false := by
  rcases h.2 with ⟨h, _⟩ | ⟨g', cap', cur, hv, hb, hg, _⟩
  · cases h
  · simp only [Value.slice.injEq, Option.some.injEq, Addr.mk.injEq] at hv
    obtain ⟨⟨rfl, _, _⟩, _, _⟩ := hv
    exact frozen_of_row w g j cur e hg
theorem owns_cell {w : World} {base : Nat} {e : TypeId} {size g n cap : Nat} {xs : List Value} (h : w.ownsRow base e size (.slice (some ⟨g, 0, none⟩) n cap) n xs) {j : Nat} {u : Value} (hu : xs[j]? = some u) : w.cell? ⟨g, j, none⟩ = some u := by
  have := h.cells (g := g) rfl j u hu
  have hadd : (⟨g, 0, none⟩ : Addr).add j = ⟨g, j, none⟩ := by unfold Addr.add; split <;> simp_all
  rwa [hadd] at this
theorem owns_some {w : World} {base : Nat} {e : TypeId} {size n : Nat} {v : Value} {xs : List Value} (h : w.ownsRow base e size v n xs) (hn : 0 < n) : ∃ g cap, v = .slice (some ⟨g, 0, none⟩) n cap ∧ n ≤ cap ∧ cap ≤ maxLen := by
  rcases h.2 with ⟨_, h⟩ | ⟨g, cap, cur, hv, hb, hg, hnc, hcm, _⟩
  · omega
  · exact ⟨g, cap, hv, hnc, hcm⟩
theorem owns_at {w w' : World} {base : Nat} {e : TypeId} {size n : Nat} {v : Value} {xs : List Value} (h : w.ownsRow base e size v n xs) (hk : ∀ k, v.ownBlock = some k → w'.heap[k]? = w.heap[k]?) : w'.ownsRow base e size v n xs := by
  refine ⟨h.1, ?_⟩
  rcases h.2 with hn | ⟨g, cap, cur, rfl, hb, hgg, rest⟩
  · exact .inl hn
  · exact .inr ⟨g, cap, cur, rfl, hb, (hk g rfl).trans hgg, rest⟩
theorem owns_type {w : World} {base : Nat} {e : TypeId} {size n : Nat} {v : Value} {xs : List Value} (h : w.ownsRow base e size v n xs) {k : Nat} (hk : v.ownBlock = some k) : ∃ cur, w.heap[k]? = some (.cells cur e (0, 0)) := by
  rcases h.2 with ⟨rfl, _⟩ | ⟨g, cap, cur, rfl, hb, hgg, rest⟩
  · cases hk
  · cases hk
    exact ⟨cur, hgg⟩

theorem owns_keep {w w' : World} {e : TypeId} {size n : Nat} {v : Value} {xs : List Value} (h : w.ownsRow 0 e size v n xs) (hb : Below w.heap.size w w') : w'.ownsRow 0 e size v n xs := owns_at h fun k hk => hb.block k (h.lt k hk).2
theorem owns_to {w w' : World} {b : Nat} {e : TypeId} {size n : Nat} {v : Value} {xs : List Value} (h : w.ownsRow b e size v n xs) (hb : Below w.heap.size w w') : w'.ownsRow b e size v n xs := owns_at h fun k hk => hb.block k (h.lt k hk).2
theorem owns_form {w : World} {base : Nat} {e : TypeId} {size n : Nat} {v : Value} {xs : List Value} (h : w.ownsRow base e size v n xs) : ∃ ao cap, v = .slice ao n cap := by
  rcases h.2 with ⟨rfl, rfl⟩ | ⟨g, cap, _, rfl, _⟩
  · exact ⟨_, _, rfl⟩
  · exact ⟨_, _, rfl⟩
theorem size_list (s : ByteArray) : s.data.toList.length = s.size := by simp
theorem list_at {s : ByteArray} {k : Nat} (h : k < s.size) : s.data.toList[k]? = some (s[k]'h) := by
  rw [List.getElem?_eq_getElem (by simpa using h)]
  rfl
def strs (l : List ByteArray) : List Value := l.map Value.string
end Go.Proofs.YtigkdehaepenhaaGreatDoor.B

namespace Go.Proofs.YtigkdehaepenhaaGreatDoor.B
open Go.RowKit

section
variable {P : Program} {ops : Array Oper} {Q : Exit → Act → World → Prop} {md : Region.Mode} {S : World → Prop} {z : Nat}

/-- In whatever order the rest comes up, all is well; S holds behind each operation but z. -/
def Till (P : Program) (md : Region.Mode) (ops : Array Oper) (Q : Exit → Act → World → Prop) (S : World → Prop) (z : Nat) : Nat → Array Bool → Act → World → Prop
  | 0 => fun up a w => Region.ready md ops up = [] ∧ Q .normal a w
  | n + 1 => fun up a w => (Region.ready md ops up = [] → Q .normal a w) ∧ ∀ i, i ∈ Region.ready md ops up → wpOp P ops Q i (fun a' w' => (i ≠ z → S w') ∧ Till P md ops Q S z n (up.setIfInBounds i true) a' w') a w
theorem Till.any : ∀ {n : Nat} {up : Array Bool} {a : Act} {w : World}, Till P md ops Q S z n up a w → wpAny P md ops Q n up a w
  | 0, _, _, _, h => h
  | n + 1, _, _, _, h => ⟨h.1, fun i hi => wpOp_mono (fun _ _ q => Till.any q.2) (h.2 i hi)⟩
theorem Till.region {id : Nat} {a : Act} {w : World} (hm : P.follows .mixedOrders = true) (hS : S w.drew) (h : S w.drew → Till P .any ops Q S z ops.size (Array.replicate ops.size false) a w.drew) : (Code.region id ops true).wp P Q a w :=
  wp_region_any hm (Till.any (h hS))
/-- Does z wait for i? -/
def waitsB (md : Region.Mode) (ops : Array Oper) (z i : Nat) : Bool := match ops[z]? with
  | some o => o.after.any fun e => Region.binds md e && e.on == i
  | none => false
theorem waits_not {i j : Nat} {up : Array Bool} (hz : waitsB md ops z i = true) (hi : i ∈ Region.ready md ops up) (hj : j ∈ Region.ready md ops up) : j ≠ z := by
  rintro rfl
  obtain ⟨_, o, ho, hall⟩ := mem_ready.1 hj
  unfold waitsB at hz
  rw [ho] at hz
  obtain ⟨e, he, hb⟩ := Array.any_eq_true'.1 hz
  simp only [Bool.and_eq_true, beq_iff_eq] at hb
  have h1 := hall e he hb.1
  rw [hb.2] at h1
  have h0 := (mem_ready.1 hi).1
  rcases Nat.lt_or_ge i up.size with q | q
  · simp [q] at h0 h1
    rw [h0] at h1
    cases h1
  · simp [Array.getElem?_eq_none q] at h1
theorem Till.front {i : Nat} {oi : Oper} {v : Value} (hi : ops[i]? = some oi) (hsel : ∀ (j : Nat) (o : Oper) cs b, ops[j]? = some o → o.op ≠ .select cs b) (hQ : ∀ c a w, Q (.panic c) (a.put oi.dst v) w → Q (.panic c) a w) (hz : waitsB md ops z i = true) :
    ∀ (n : Nat) (up : Array Bool) (a : Act) (w : World), (∀ j oj, ops[j]? = some oj → j ≠ i → up.getD j true = false → (∀ e ∈ oj.after, Region.binds md e = true → e.on ≠ i) → oi.apart ops oj = true) → i ∈ Region.ready md ops up → YieldsIf P ops S oi v a → S w →
      Till P md ops Q S z n (up.setIfInBounds i true) (a.put oi.dst v) w → Till P md ops Q S z (n + 1) up a w := by
  have one : ∀ {K : Act → World → Prop} {a : Act} {w : World}, YieldsIf P ops S oi v a → S w → K (a.put oi.dst v) w → wpOp P ops Q i K a w := fun hy hS hK => hy.wpOp hi hS hK
  have none : ∀ {up : Array Bool} {C : Prop}, i ∈ Region.ready md ops up → Region.ready md ops up = [] → C := fun hr h => by rw [h] at hr; cases hr
  intro n
  induction n with
  | zero =>
    intro up a w _ hr hy hS T
    refine ⟨none hr, fun j hj => ?_⟩
    rcases Classical.em (j = i) with e | e
    · rw [e]; exact one hy hS ⟨fun _ => hS, T⟩
    · have m := ready_mono (i := i) hj e
      rw [T.1] at m
      cases m
  | succ n ih =>
    intro up a w hfree hr hy hS T
    refine ⟨none hr, fun j hj => ?_⟩
    rcases Classical.em (j = i) with e | e
    · rw [e]; exact one hy hS ⟨fun _ => hS, T⟩
    · have hjz : j ≠ z := waits_not hz hr hj
      obtain ⟨hup, oj, hoj, hall⟩ := mem_ready.1 hj
      have hun : ∀ d ∈ oj.after, Region.binds md d = true → d.on ≠ i := fun d hd hb q => by
        have h1 := hall d hd hb
        rw [q] at h1
        have h0 := (mem_ready.1 hr).1
        rcases Nat.lt_or_ge i up.size with g | g
        · simp [g] at h0 h1
          rw [h0] at h1
          cases h1
        · simp [Array.getElem?_eq_none g] at h1
      have step := wpOp_putIf hoj (hfree j oj hoj e hup hun) (fun cs b => hsel i oi cs b hi) (fun cs b => hsel j oj cs b hoj) hQ hy (T.2 j (ready_mono hj e))
      refine wpOp_mono (fun a' w' q => ⟨fun _ => q.2.1 hjz, ih _ a' w' (fun k ok hk hki hku hkn => hfree k ok hk hki ?_ hkn) (ready_mono hr (Ne.symm e)) q.1 (q.2.1 hjz) ?_⟩) step
      · rcases Classical.em (j = k) with g | g
        · rw [← g]; exact hup
        · rw [getD_set_ne true g] at hku; exact hku
      · rw [Array.setIfInBounds_comm _ _ e]
        exact q.2.2
theorem Till.take {i : Nat} {oi : Oper} {v : Value} {n : Nat} {up : Array Bool} {a : Act} {w : World} (hi : ops[i]? = some oi) (hs : Region.noSelect ops = true) (hf : Region.free md ops up i = true) (hr : (Region.ready md ops up).contains i = true) (hz : waitsB md ops z i = true)
    (hQ : ∀ c a w, Q (.panic c) (a.put oi.dst v) w → Q (.panic c) a w) (hy : YieldsIf P ops S oi v a) (hS : S w) (h : Till P md ops Q S z n (up.setIfInBounds i true) (a.put oi.dst v) w) : Till P md ops Q S z (n + 1) up a w :=
  Till.front hi (Region.noSelect_spec hs) hQ hz n up a w (Region.free_spec hi hf) (by simpa using hr) hy hS h
theorem Till.next {i : Nat} {o : Oper} {n : Nat} {up : Array Bool} {a : Act} {w : World} (hr : Region.ready md ops up = [i]) (ho : ops[i]? = some o)
    (h : ∀ K : Act → World → Prop, Shut (∀ a w, (i ≠ z → S w) → Till P md ops Q S z n (up.setIfInBounds i true) a w → K a w) → if Region.wanted o (yielded ops a.tmps) = true then Oper.wp P o a w K Q else K (a.put o.dst undef) w) : Till P md ops Q S z (n + 1) up a w := by
  refine ⟨fun e => absurd e (by rw [hr]; exact List.cons_ne_nil _ _), fun j hj => ?_⟩
  rw [hr] at hj
  obtain rfl := List.mem_singleton.1 hj
  exact wpOp_step ho fun K hK => h K (fun a w hS hT => hK a w ⟨hS, hT⟩)
theorem Till.done {n : Nat} {up : Array Bool} {a : Act} {w : World} (hr : Region.ready md ops up = []) (h : Q .normal a w) : Till P md ops Q S z n up a w := by
  match n with
  | 0 => exact And.intro hr h
  | n + 1 =>
    refine ⟨fun _ => h, fun i hi => ?_⟩
    rw [hr] at hi
    cases hi
theorem Till.two {i j : Nat} {o o' : Oper} {n : Nat} {up : Array Bool} {a : Act} {w : World} (hr : Region.ready md ops up = [i, j]) (ho : ops[i]? = some o) (ho' : ops[j]? = some o')
    (h : ∀ K : Act → World → Prop, Shut (∀ a w, (i ≠ z → S w) → Till P md ops Q S z n (up.setIfInBounds i true) a w → K a w) → if Region.wanted o (yielded ops a.tmps) = true then Oper.wp P o a w K Q else K (a.put o.dst undef) w)
    (h' : ∀ K : Act → World → Prop, Shut (∀ a w, (j ≠ z → S w) → Till P md ops Q S z n (up.setIfInBounds j true) a w → K a w) → if Region.wanted o' (yielded ops a.tmps) = true then Oper.wp P o' a w K Q else K (a.put o'.dst undef) w) : Till P md ops Q S z (n + 1) up a w := by
  refine ⟨fun e => absurd e (by rw [hr]; exact List.cons_ne_nil _ _), fun k hk => ?_⟩
  rw [hr] at hk
  have hk2 : k = i ∨ k = j := by simpa using hk
  rcases hk2 with q | q
  · rw [q]; exact wpOp_step ho fun K hK => h K (fun a w hS hT => hK a w ⟨hS, hT⟩)
  · rw [q]; exact wpOp_step ho' fun K hK => h' K (fun a w hS hT => hK a w ⟨hS, hT⟩)
/-- As Till's, where S holds behind every operation. -/
theorem Till.frontA {i : Nat} {oi : Oper} {v : Value} (hi : ops[i]? = some oi) (hsel : ∀ (j : Nat) (o : Oper) cs b, ops[j]? = some o → o.op ≠ .select cs b) (hQ : ∀ c a w, Q (.panic c) (a.put oi.dst v) w → Q (.panic c) a w) (hz : ops[z]? = none) :
    ∀ (n : Nat) (up : Array Bool) (a : Act) (w : World), (∀ j oj, ops[j]? = some oj → j ≠ i → up.getD j true = false → (∀ e ∈ oj.after, Region.binds md e = true → e.on ≠ i) → oi.apart ops oj = true) → i ∈ Region.ready md ops up → YieldsIf P ops S oi v a → S w →
      Till P md ops Q S z n (up.setIfInBounds i true) (a.put oi.dst v) w → Till P md ops Q S z (n + 1) up a w := by
  have one : ∀ {K : Act → World → Prop} {a : Act} {w : World}, YieldsIf P ops S oi v a → S w → K (a.put oi.dst v) w → wpOp P ops Q i K a w := fun hy hS hK => hy.wpOp hi hS hK
  have none : ∀ {up : Array Bool} {C : Prop}, i ∈ Region.ready md ops up → Region.ready md ops up = [] → C := fun hr h => by rw [h] at hr; cases hr
  intro n
  induction n with
  | zero =>
    intro up a w _ hr hy hS T
    refine ⟨none hr, fun j hj => ?_⟩
    rcases Classical.em (j = i) with e | e
    · rw [e]; exact one hy hS ⟨fun _ => hS, T⟩
    · have m := ready_mono (i := i) hj e
      rw [T.1] at m
      cases m
  | succ n ih =>
    intro up a w hfree hr hy hS T
    refine ⟨none hr, fun j hj => ?_⟩
    rcases Classical.em (j = i) with e | e
    · rw [e]; exact one hy hS ⟨fun _ => hS, T⟩
    · obtain ⟨hup, oj, hoj, hall⟩ := mem_ready.1 hj
      have hjz : j ≠ z := fun q => by
        rw [q, hz] at hoj
        cases hoj
      have hun : ∀ d ∈ oj.after, Region.binds md d = true → d.on ≠ i := fun d hd hb q => by
        have h1 := hall d hd hb
        rw [q] at h1
        have h0 := (mem_ready.1 hr).1
        rcases Nat.lt_or_ge i up.size with g | g
        · simp [g] at h0 h1
          rw [h0] at h1
          cases h1
        · simp [Array.getElem?_eq_none g] at h1
      have step := wpOp_putIf hoj (hfree j oj hoj e hup hun) (fun cs b => hsel i oi cs b hi) (fun cs b => hsel j oj cs b hoj) hQ hy (T.2 j (ready_mono hj e))
      refine wpOp_mono (fun a' w' q => ⟨fun _ => q.2.1 hjz, ih _ a' w' (fun k ok hk hki hku hkn => hfree k ok hk hki ?_ hkn) (ready_mono hr (Ne.symm e)) q.1 (q.2.1 hjz) ?_⟩) step
      · rcases Classical.em (j = k) with g | g
        · rw [← g]; exact hup
        · rw [getD_set_ne true g] at hku; exact hku
      · rw [Array.setIfInBounds_comm _ _ e]
        exact q.2.2
theorem Till.takeA {i : Nat} {oi : Oper} {v : Value} {n : Nat} {up : Array Bool} {a : Act} {w : World} (hi : ops[i]? = some oi) (hs : Region.noSelect ops = true) (hf : Region.free md ops up i = true) (hr : (Region.ready md ops up).contains i = true) (hz : ops[z]? = none)
    (hQ : ∀ c a w, Q (.panic c) (a.put oi.dst v) w → Q (.panic c) a w) (hy : YieldsIf P ops S oi v a) (hS : S w) (h : Till P md ops Q S z n (up.setIfInBounds i true) (a.put oi.dst v) w) : Till P md ops Q S z (n + 1) up a w :=
  Till.frontA hi (Region.noSelect_spec hs) hQ hz n up a w (Region.free_spec hi hf) (by simpa using hr) hy hS h
end

section
variable {P : Program} {w : World}
theorem wp_append_row {o : Oper} {a : Act} {K : Act → World → Prop} {Q : Exit → Act → World → Prop} (s x : Operand) (t : TypeId)
    (ho : o.op = .call { callee := .builtin .append, args := #[s, x], argTypes := #[t, t] })
    (base : Nat) (e : TypeId) (i : TypeInfo) (z : Value) (size bytes : Nat) (ht : P.underlying t = some (.slice e)) (hi : P.info? e = some i) (hz : i.zero = some z)
    (hsize : i.size = size) (hby : i.bytes = bytes) (hzs : z.cells.size = size) (hsz : 0 < size)
    (v : Value) (n : Nat) (xs : List Value) (hs : a.eval s = v) (hown : w.ownsRow base e size v n xs) (u : Value) (m : Nat) (ys : List Value) (hx : a.eval x = u) (hsrc : w.ownsRow 0 e size u m ys) (h1 : ∀ y ∈ ys, y.oneCell' = true)
    (h63 : n + m ≤ maxLen) (hbytes : (n + m) * bytes ≤ 140737488355328) (hbase : base ≤ w.heap.size)
    (h : ∀ v' w', w'.ownsRow base e size v' (n + m) (xs ++ ys) → w.grownBy w' v.ownBlock → K (a.put o.dst v') w') : o.wp P a w K Q := by
  rcases hsrc.2 with ⟨rfl, rfl⟩ | ⟨g, cap, cur, rfl, _⟩
  · have hy : ys = [] := List.eq_nil_of_length_eq_zero (by simpa using hsrc.1)
    subst hy
    have hrun := run_append_owned_none (P := P) (w := w) base t o.type e i size ht hi v n xs hown
    unfold Oper.wp
    simp [execOp, ho, resolve, invoke, builtin, hs, hx, hrun, Result.andThen]
    exact h _ _ (by simpa using hown) ⟨rfl, rfl, rfl, Nat.le_refl _, fun _ _ _ => rfl⟩
  · exact wp_append_own w s x t ho base e i z size bytes ht hi hz hsize hby hzs hsz v n xs hs hown ⟨g, 0, none⟩ m cap ys hx hsrc.1 (hsrc.cells rfl) h1 h63 hbytes hbase (fun v' w' p q _ => h v' w' p q)
theorem wpList_append_row {ops : Array Oper} {rest : List Oper} {o : Oper} {a : Act} {Q : Exit → Act → World → Prop} (hgd : o.guard = none) (s x : Operand) (t : TypeId)
    (ho : o.op = .call { callee := .builtin .append, args := #[s, x], argTypes := #[t, t] })
    (base : Nat) (e : TypeId) (i : TypeInfo) (z : Value) (size bytes : Nat) (ht : P.underlying t = some (.slice e)) (hi : P.info? e = some i) (hz : i.zero = some z)
    (hsize : i.size = size) (hby : i.bytes = bytes) (hzs : z.cells.size = size) (hsz : 0 < size)
    (v : Value) (n : Nat) (xs : List Value) (hs : a.eval s = v) (hown : w.ownsRow base e size v n xs) (u : Value) (m : Nat) (ys : List Value) (hx : a.eval x = u) (hsrc : w.ownsRow 0 e size u m ys) (h1 : ∀ y ∈ ys, y.oneCell' = true)
    (h63 : n + m ≤ maxLen) (hbytes : (n + m) * bytes ≤ 140737488355328) (hbase : base ≤ w.heap.size)
    (h : ∀ v' w', w'.ownsRow base e size v' (n + m) (xs ++ ys) → w.grownBy w' v.ownBlock → wpList P ops Q rest (a.put o.dst v') w') : wpList P ops Q (o :: rest) a w :=
  wpList_plain hgd fun _ hK => wp_append_row s x t ho base e i z size bytes ht hi hz hsize hby hzs hsz v n xs hs hown u m ys hx hsrc h1 h63 hbytes hbase fun v' w' p q => hK _ _ (h v' w' p q)
theorem step_append_row {ops : Array Oper} {o : Oper} {a : Act} {K : Act → World → Prop} {Q : Exit → Act → World → Prop} {E : Prop} (hgd : o.guard = none) (s x : Operand) (t : TypeId)
    (ho : o.op = .call { callee := .builtin .append, args := #[s, x], argTypes := #[t, t] })
    (base : Nat) (e : TypeId) (i : TypeInfo) (z : Value) (size bytes : Nat) (ht : P.underlying t = some (.slice e)) (hi : P.info? e = some i) (hz : i.zero = some z)
    (hsize : i.size = size) (hby : i.bytes = bytes) (hzs : z.cells.size = size) (hsz : 0 < size)
    (v : Value) (n : Nat) (xs : List Value) (hs : a.eval s = v) (hown : w.ownsRow base e size v n xs) (u : Value) (m : Nat) (ys : List Value) (hx : a.eval x = u) (hsrc : w.ownsRow 0 e size u m ys) (h1 : ∀ y ∈ ys, y.oneCell' = true)
    (h63 : n + m ≤ maxLen) (hbytes : (n + m) * bytes ≤ 140737488355328) (hbase : base ≤ w.heap.size)
    (h : ∀ v' w', w'.ownsRow base e size v' (n + m) (xs ++ ys) → w.grownBy w' v.ownBlock → K (a.put o.dst v') w') :
    if Region.wanted o (yielded ops a.tmps) = true then Oper.wp P o a w K Q else E := by
  have hw : Region.wanted o (yielded ops a.tmps) = true := by simp [Region.wanted, hgd]
  rw [if_pos hw]
  exact wp_append_row s x t ho base e i z size bytes ht hi hz hsize hby hzs hsz v n xs hs hown u m ys hx hsrc h1 h63 hbytes hbase h
end
end Go.Proofs.YtigkdehaepenhaaGreatDoor.B

namespace Go.Proofs.YtigkdehaepenhaaGreatDoor.B
open Go.RowKit

/-! ### cells, member by member -/
def cellsC {α : Type} (f : α → List Value) : List α → List Value
  | [] => []
  | x :: r => f x ++ cellsC f r
section
variable {α : Type} {f : α → List Value} {k : Nat}
theorem cellsC_len (hk : ∀ x, (f x).length = k) : ∀ l, (cellsC f l).length = l.length * k
  | [] => by simp [cellsC]
  | x :: r => by rw [cellsC, List.length_append, hk, cellsC_len hk r, List.length_cons, Nat.add_mul]; omega
theorem cellsC_app : ∀ a b, cellsC f (a ++ b) = cellsC f a ++ cellsC f b
  | [], b => rfl
  | x :: r, b => by rw [List.cons_append, cellsC, cellsC, cellsC_app r b, List.append_assoc]
theorem cellsC_one (x : α) : cellsC f [x] = f x := by rw [cellsC, cellsC, List.append_nil]
theorem cellsC_get (hk : ∀ x, (f x).length = k) : ∀ (l : List α) (i j : Nat) (x : α), l[i]? = some x → j < k → (cellsC f l)[i * k + j]? = (f x)[j]?
  | [], i, j, x, h, _ => by simp at h
  | y :: r, 0, j, x, h, hj => by
    obtain rfl : y = x := by simpa using h
    rw [cellsC, Nat.zero_mul, Nat.zero_add, List.getElem?_append_left (by rw [hk]; exact hj)]
  | y :: r, i + 1, j, x, h, hj => by
    have h' : r[i]? = some x := by simpa using h
    rw [cellsC, List.getElem?_append_right (by rw [hk, Nat.add_mul]; omega), hk, show (i + 1) * k + j - k = i * k + j by rw [Nat.add_mul]; omega]
    exact cellsC_get hk r i j x h' hj
theorem cellsC_inv (hk : ∀ x, (f x).length = k) : ∀ (l : List α) (n : Nat) (u : Value), (cellsC f l)[n]? = some u → ∃ i j x, l[i]? = some x ∧ n = i * k + j ∧ (f x)[j]? = some u
  | [], n, u, h => by simp [cellsC] at h
  | y :: r, n, u, h => by
    rw [cellsC] at h
    by_cases q : n < k
    · rw [List.getElem?_append_left (by rw [hk]; exact q)] at h
      exact ⟨0, n, y, rfl, by omega, h⟩
    · rw [List.getElem?_append_right (by rw [hk]; omega), hk] at h
      obtain ⟨i, j, x, h1, h2, h3⟩ := cellsC_inv hk r (n - k) u h
      exact ⟨i + 1, j, x, by simpa using h1, by rw [Nat.add_mul]; omega, h3⟩
theorem cellsC_mem {P : Value → Prop} : ∀ (l : List α), (∀ x ∈ l, ∀ u ∈ f x, P u) → ∀ u ∈ cellsC f l, P u
  | [], _, u, hu => by cases hu
  | x :: r, h, u, hu => by
    rcases List.mem_append.1 hu with hu | hu
    · exact h x List.mem_cons_self u hu
    · exact cellsC_mem r (fun y hy => h y (List.mem_cons_of_mem _ hy)) u hu

/-! ### a slice's members -/
/-- The slice at a holds these, k cells each. -/
def RowL (k : Nat) (f : α → List Value) (w : World) (a : Option Addr) (l : List α) : Prop := l = [] ∨ ∃ g o, a = some ⟨g, o, none⟩ ∧ g < w.heap.size ∧ ∀ (i : Nat) (x : α), l[i]? = some x → w.rangeAt g (o + i * k) (f x)
theorem RowL.nil (w : World) (a : Option Addr) : RowL k f w a [] := .inl rfl
theorem RowL.keep {w w' : World} {a : Option Addr} {l : List α} (h : RowL k f w a l) (hb : Below w.heap.size w w') : RowL k f w' a l := by
  rcases h with h | ⟨g, o, h1, h0, h2⟩
  · exact .inl h
  · exact .inr ⟨g, o, h1, Nat.lt_of_lt_of_le h0 hb.size, fun i x hx j v hj => (hb.cell (p := ⟨g, _, none⟩) h0).trans (h2 i x hx j v hj)⟩
theorem RowL.at_ {w : World} {a : Option Addr} {l : List α} (h : RowL k f w a l) {i : Nat} {x : α} (hx : l[i]? = some x) : ∃ g o, a = some ⟨g, o, none⟩ ∧ g < w.heap.size ∧ w.rangeAt g (o + i * k) (f x) := by
  rcases h with h | ⟨g, o, h1, h0, h2⟩
  · rw [h] at hx; simp at hx
  · exact ⟨g, o, h1, h0, h2 i x hx⟩
theorem RowL.drop {w : World} {a : Option Addr} {l : List α} (h : RowL k f w a l) (i : Nat) (hi : i < l.length) : ∃ g o, a = some ⟨g, o, none⟩ ∧ RowL k f w (some ⟨g, o + i * k, none⟩) (l.drop i) := by
  rcases h with h | ⟨g, o, h1, h0, h2⟩
  · rw [h] at hi; simp at hi
  · refine ⟨g, o, h1, .inr ⟨g, o + i * k, rfl, h0, fun j x hx => ?_⟩⟩
    rw [List.getElem?_drop] at hx
    have := h2 (i + j) x hx
    rw [Nat.add_mul, ← Nat.add_assoc] at this
    exact this
theorem RowL.tail {w : World} {a : Option Addr} {x : α} {l : List α} (h : RowL k f w a (x :: l)) : ∃ g o, a = some ⟨g, o, none⟩ ∧ g < w.heap.size ∧ w.rangeAt g o (f x) ∧ RowL k f w (some ⟨g, o + k, none⟩) l := by
  rcases h with h | ⟨g, o, h1, h0, h2⟩
  · cases h
  · refine ⟨g, o, h1, h0, ?_, .inr ⟨g, o + k, rfl, h0, fun i y hy => ?_⟩⟩
    · have := h2 0 x rfl
      rwa [Nat.zero_mul, Nat.add_zero] at this
    · have := h2 (i + 1) y (by simpa using hy)
      rwa [show o + (i + 1) * k = o + k + i * k by rw [Nat.add_mul]; omega] at this
theorem RowL.of_owns {w : World} {base : Nat} {e : TypeId} {v : Value} {l : List α} (hk : ∀ x, (f x).length = k) (h : w.ownsRow base e k v l.length (cellsC f l)) : ∃ a cap, v = .slice a l.length cap ∧ RowL k f w a l ∧ l.length ≤ cap ∧ cap ≤ maxLen ∧ (a = none → cap = 0) := by
  rcases h.2 with ⟨rfl, h0⟩ | ⟨g, cap, cur, rfl, hb, hg, hnc, hcm, hcs, ht⟩
  · exact ⟨none, 0, by rw [h0], .inl (List.eq_nil_of_length_eq_zero h0), by omega, by unfold maxLen; omega, fun _ => rfl⟩
  · refine ⟨_, cap, rfl, .inr ⟨g, 0, rfl, heap_lt hg, fun i x hx j v hj => ?_⟩, hnc, hcm, fun q => by cases q⟩
    have hjk : j < k := by rw [← hk x]; exact (List.getElem?_eq_some_iff.1 hj).1
    rw [Nat.zero_add]
    refine owns_cell (n := l.length) (cap := cap) h ?_
    rw [cellsC_get hk l i j x hx hjk]
    exact hj
/-- The cells behind a slice's address, one by one. -/
theorem RowL.cells {w : World} {g o : Nat} {l : List α} (hk : ∀ x, (f x).length = k) (h : RowL k f w (some ⟨g, o, none⟩) l) : ∀ j u, (cellsC f l)[j]? = some u → w.cell? ((⟨g, o, none⟩ : Addr).add j) = some u := by
  intro n u hu
  obtain ⟨i, j, x, h1, rfl, h3⟩ := cellsC_inv hk l n u hu
  obtain ⟨g', o', e, _, hr⟩ := h.at_ h1
  simp only [Option.some.injEq, Addr.mk.injEq] at e
  obtain ⟨rfl, rfl, _⟩ := e
  rw [Addr.add_mid, ← Nat.add_assoc]
  exact hr j u h3
end

/-! ### append, with all members of a slice behind -/
section
variable {P : Program} {w : World} {α : Type} {f : α → List Value} {k : Nat}
theorem wp_append_rowL {o : Oper} {a : Act} {K : Act → World → Prop} {Q : Exit → Act → World → Prop} (s x : Operand) (t : TypeId)
    (ho : o.op = .call { callee := .builtin .append, args := #[s, x], argTypes := #[t, t] })
    (base : Nat) (e : TypeId) (i : TypeInfo) (z : Value) (bytes : Nat) (ht : P.underlying t = some (.slice e)) (hi : P.info? e = some i) (hz : i.zero = some z)
    (hsize : i.size = k) (hby : i.bytes = bytes) (hzs : z.cells.size = k) (hsz : 0 < k) (hk : ∀ x, (f x).length = k) (h1 : ∀ x, ∀ u ∈ f x, u.oneCell' = true)
    (v : Value) (n : Nat) (xs : List Value) (hs : a.eval s = v) (hown : w.ownsRow base e k v n xs) (la : Option Addr) (lc : Nat) (l : List α) (hx : a.eval x = .slice la l.length lc) (hsrc : RowL k f w la l) (hnil : la = none → lc = 0)
    (h63 : n + l.length ≤ maxLen) (hbytes : (n + l.length) * bytes ≤ 140737488355328) (hbase : base ≤ w.heap.size)
    (h : ∀ ao cp w', w'.ownsRow base e k (.slice ao (n + l.length) cp) (n + l.length) (xs ++ cellsC f l) → w.grownBy w' v.ownBlock → K (a.put o.dst (.slice ao (n + l.length) cp)) w') : o.wp P a w K Q := by
  cases la with
  | none =>
    obtain rfl := hnil rfl
    obtain rfl : l = [] := by
      rcases hsrc with q | ⟨g, o, q, _⟩
      · exact q
      · cases q
    obtain ⟨ao, cp, rfl⟩ := owns_form hown
    have hrun := run_append_owned_none (P := P) (w := w) base t o.type e i k ht hi _ n xs hown
    unfold Oper.wp
    simp [execOp, ho, resolve, invoke, builtin, hs, hx, hrun, Result.andThen]
    exact h ao cp w (by simpa [cellsC] using hown) ⟨rfl, rfl, rfl, Nat.le_refl _, fun _ _ _ => rfl⟩
  | some ad =>
    have hcells : ∀ j u, (cellsC f l)[j]? = some u → w.cell? (ad.add j) = some u := by
      rcases hsrc with rfl | ⟨g, o', q, q2⟩
      · intro j u hu; simp [cellsC] at hu
      · obtain rfl := Option.some.inj q
        exact RowL.cells hk (.inr ⟨g, o', rfl, q2⟩)
    refine wp_append_own w s x t ho base e i z k bytes ht hi hz hsize hby hzs hsz v n xs hs hown ad l.length lc (cellsC f l) hx (cellsC_len hk l) hcells (cellsC_mem l fun x _ => h1 x) h63 hbytes hbase (fun v' w' p q _ => ?_)
    obtain ⟨ao, cp, rfl⟩ := owns_form p
    exact h ao cp w' p q
theorem wpList_append_rowL {ops : Array Oper} {rest : List Oper} {o : Oper} {a : Act} {Q : Exit → Act → World → Prop} (hgd : o.guard = none) (s x : Operand) (t : TypeId)
    (ho : o.op = .call { callee := .builtin .append, args := #[s, x], argTypes := #[t, t] })
    (base : Nat) (e : TypeId) (i : TypeInfo) (z : Value) (bytes : Nat) (ht : P.underlying t = some (.slice e)) (hi : P.info? e = some i) (hz : i.zero = some z)
    (hsize : i.size = k) (hby : i.bytes = bytes) (hzs : z.cells.size = k) (hsz : 0 < k) (hk : ∀ x, (f x).length = k) (h1 : ∀ x, ∀ u ∈ f x, u.oneCell' = true)
    (v : Value) (n : Nat) (xs : List Value) (hs : a.eval s = v) (hown : w.ownsRow base e k v n xs) (la : Option Addr) (lc : Nat) (l : List α) (hx : a.eval x = .slice la l.length lc) (hsrc : RowL k f w la l) (hnil : la = none → lc = 0)
    (h63 : n + l.length ≤ maxLen) (hbytes : (n + l.length) * bytes ≤ 140737488355328) (hbase : base ≤ w.heap.size)
    (h : ∀ ao cp w', w'.ownsRow base e k (.slice ao (n + l.length) cp) (n + l.length) (xs ++ cellsC f l) → w.grownBy w' v.ownBlock → wpList P ops Q rest (a.put o.dst (.slice ao (n + l.length) cp)) w') : wpList P ops Q (o :: rest) a w :=
  wpList_plain hgd fun _ hK => wp_append_rowL s x t ho base e i z bytes ht hi hz hsize hby hzs hsz hk h1 v n xs hs hown la lc l hx hsrc hnil h63 hbytes hbase fun ao cp w' p q => hK _ _ (h ao cp w' p q)
theorem step_append_rowL {ops : Array Oper} {o : Oper} {a : Act} {K : Act → World → Prop} {Q : Exit → Act → World → Prop} {E : Prop} (hgd : o.guard = none) (s x : Operand) (t : TypeId)
    (ho : o.op = .call { callee := .builtin .append, args := #[s, x], argTypes := #[t, t] })
    (base : Nat) (e : TypeId) (i : TypeInfo) (z : Value) (bytes : Nat) (ht : P.underlying t = some (.slice e)) (hi : P.info? e = some i) (hz : i.zero = some z)
    (hsize : i.size = k) (hby : i.bytes = bytes) (hzs : z.cells.size = k) (hsz : 0 < k) (hk : ∀ x, (f x).length = k) (h1 : ∀ x, ∀ u ∈ f x, u.oneCell' = true)
    (v : Value) (n : Nat) (xs : List Value) (hs : a.eval s = v) (hown : w.ownsRow base e k v n xs) (la : Option Addr) (lc : Nat) (l : List α) (hx : a.eval x = .slice la l.length lc) (hsrc : RowL k f w la l) (hnil : la = none → lc = 0)
    (h63 : n + l.length ≤ maxLen) (hbytes : (n + l.length) * bytes ≤ 140737488355328) (hbase : base ≤ w.heap.size)
    (h : ∀ ao cp w', w'.ownsRow base e k (.slice ao (n + l.length) cp) (n + l.length) (xs ++ cellsC f l) → w.grownBy w' v.ownBlock → K (a.put o.dst (.slice ao (n + l.length) cp)) w') :
    if Region.wanted o (yielded ops a.tmps) = true then Oper.wp P o a w K Q else E := by
  have hw : Region.wanted o (yielded ops a.tmps) = true := by simp [Region.wanted, hgd]
  rw [if_pos hw]
  exact wp_append_rowL s x t ho base e i z bytes ht hi hz hsize hby hzs hsz hk h1 v n xs hs hown la lc l hx hsrc hnil h63 hbytes hbase h
end

/-- A row read whole in a region that draws its order and only reads. -/
theorem quiet_row {P : Program} {C : World → Prop} {K : Act → Prop} {o : Oper} {a : Act} (ty : TypeId) (x : Operand) (ho : o.op = .load ty x) (b off : Nat) (hx : a.eval x = .pointer (some ⟨b, off, none⟩)) (cs : List Value) (d : TypeDesc) (hc : ∀ w, C w → w.rangeAt b off cs)
    (hu : P.underlying ty = some d) (hd : d.isRow = true) (hi : (P.info? ty).map (·.size) = some cs.length) (h : K (a.put o.dst (.agg cs.toArray))) : o.quiet P a C K :=
  ⟨_, fun w hw => by
    unfold Oper.quietAt execOp
    simp only [ho, hx, Instr.loadAt, Instr.sureAddr, Sem.run_bind, Sem.run_pure, Result.andThen_ok, run_loadVar_mid w b off ty cs d (hc w hw) hu hd hi]
    exact ⟨rfl, rfl⟩, h⟩

/-! ### texts -/
def txC (s : ByteArray) : List Value := [.string s]
theorem txC_len (s : ByteArray) : (txC s).length = 1 := rfl
theorem txC_one (s : ByteArray) : ∀ u ∈ txC s, u.oneCell' = true := fun u hu => by
  obtain rfl : u = .string s := by simpa [txC] using hu
  rfl
theorem txC_strs : ∀ l, cellsC txC l = strs l
  | [] => rfl
  | x :: r => by rw [cellsC, txC_strs r]; rfl
theorem strs_one (l : List ByteArray) : ∀ u ∈ strs l, u.oneCell' = true := fun u hu => by
  obtain ⟨s, _, rfl⟩ := List.mem_map.1 hu
  rfl
theorem strs_len (l : List ByteArray) : (strs l).length = l.length := List.length_map _
theorem strs_app (a b : List ByteArray) : strs (a ++ b) = strs a ++ strs b := List.map_append
/-- The slice at a holds these texts. -/
abbrev TxtL (w : World) (a : Option Addr) (l : List ByteArray) : Prop := RowL 1 txC w a l
theorem txt_at {w : World} {a : Option Addr} {l : List ByteArray} (h : TxtL w a l) {i : Nat} {s : ByteArray} (hs : l[i]? = some s) : ∃ g o, a = some ⟨g, o, none⟩ ∧ g < w.heap.size ∧ w.cell? ⟨g, o + i, none⟩ = some (.string s) := by
  obtain ⟨g, o, h1, h0, h2⟩ := h.at_ hs
  rw [Nat.mul_one] at h2
  exact ⟨g, o, h1, h0, h2 0 _ rfl⟩
theorem txt_owns {w : World} {base : Nat} {e : TypeId} {v : Value} {l : List ByteArray} (h : w.ownsRow base e 1 v l.length (strs l)) : ∃ a cap, v = .slice a l.length cap ∧ TxtL w a l ∧ l.length ≤ cap ∧ cap ≤ maxLen ∧ (a = none → cap = 0) := by
  rw [← txC_strs] at h
  exact RowL.of_owns txC_len h
theorem txt_cells {w : World} {g o : Nat} {l : List ByteArray} (h : TxtL w (some ⟨g, o, none⟩) l) : ∀ j u, (strs l)[j]? = some u → w.cell? ((⟨g, o, none⟩ : Addr).add j) = some u := by
  rw [← txC_strs]
  exact RowL.cells txC_len h
end Go.Proofs.YtigkdehaepenhaaGreatDoor.B

namespace Go.Proofs.YtigkdehaepenhaaGreatDoor.B
open Go.RowKit

theorem setCells_nil (w : World) (b o : Nat) : w.setCells b o [] = w := rfl
theorem setCells_cons (w : World) (b o : Nat) (v : Value) (r : List Value) : w.setCells b o (v :: r) = (w.setCell ⟨b, o, none⟩ v).setCells b (o + 1) r := rfl
theorem heap_setCells_ne (b : Nat) {i : Nat} (hne : i ≠ b) : ∀ (vs : List Value) (o : Nat) (w : World), (w.setCells b o vs).heap[i]? = w.heap[i]?
  | [], o, w => rfl
  | v :: r, o, w => by rw [setCells_cons, heap_setCells_ne b hne r, heap_setCell_other _ _ _ _ hne]
theorem below_cells {B : Nat} {w0 : World} (b : Nat) (hb : B ≤ b) : ∀ (vs : List Value) (o : Nat) (w : World), Below B w0 w → Below B w0 (w.setCells b o vs)
  | [], o, w, h => h
  | v :: r, o, w, h => by rw [setCells_cons]; exact below_cells b hb r (o + 1) _ (h.setCell (p := ⟨b, o, none⟩) hb v)
theorem size_setCells (b : Nat) : ∀ (vs : List Value) (o : Nat) (w : World), (w.setCells b o vs).heap.size = w.heap.size
  | [], o, w => rfl
  | v :: r, o, w => by rw [setCells_cons, size_setCells b r]; simp [World.setCell]
theorem owns_setCells {base : Nat} {e : TypeId} {size g n cap : Nat} : ∀ (vs : List Value) (o : Nat) (w : World) (xs : List Value), w.ownsRow base e size (.slice (some ⟨g, 0, none⟩) n cap) n xs → o + vs.length ≤ xs.length →
    (w.setCells g o vs).ownsRow base e size (.slice (some ⟨g, 0, none⟩) n cap) n (xs.take o ++ vs ++ xs.drop (o + vs.length))
  | [], o, w, xs, h, _ => by rw [setCells_nil, List.append_nil, List.length_nil, Nat.add_zero, List.take_append_drop]; exact h
  | v :: r, o, w, xs, h, hl => by
    rw [List.length_cons] at hl
    have h1 := owns_setCell h (j := o) (by omega) v
    have h2 := owns_setCells r (o + 1) _ _ h1 (by rw [List.length_set]; omega)
    rw [setCells_cons]
    have e : (xs.set o v).take (o + 1) ++ r ++ (xs.set o v).drop (o + 1 + r.length) = xs.take o ++ (v :: r) ++ xs.drop (o + (v :: r).length) := by
      rw [List.drop_set_of_lt (by omega), List.take_set, List.length_cons, show o + 1 + r.length = o + (r.length + 1) by omega]
      have : (xs.take (o + 1)).set o v = xs.take o ++ [v] := by
        rw [List.take_succ_eq_append_getElem (by omega), List.set_append_right _ _ (by rw [List.length_take]; omega), List.length_take, show o - min o xs.length = 0 by omega]
        rfl
      rw [this, List.append_assoc, List.append_assoc, List.append_assoc]
      rfl
    rwa [e] at h2
section
variable {α : Type} {f : α → List Value} {k : Nat}
theorem cellsC_splice (hk : ∀ x, (f x).length = k) (x : α) : ∀ (Z : List α) (i : Nat), i < Z.length → (cellsC f Z).take (i * k) ++ f x ++ (cellsC f Z).drop (i * k + k) = cellsC f (Z.set i x)
  | [], i, h => by simp at h
  | y :: r, 0, _ => by
    rw [Nat.zero_mul, Nat.zero_add, List.take_zero, List.nil_append, cellsC, List.drop_append_of_le_length (by rw [hk]; exact Nat.le_refl _), List.drop_of_length_le (by rw [hk]; exact Nat.le_refl _), List.nil_append, List.set_cons_zero, cellsC]
  | y :: r, i + 1, h => by
    have ih := cellsC_splice hk x r i (by simpa using h)
    rw [List.set_cons_succ, cellsC, cellsC, ← ih, show (i + 1) * k = k + i * k by rw [Nat.add_mul]; omega, List.take_append, hk, List.take_of_length_le (by rw [hk]; omega), Nat.add_sub_cancel_left, Nat.add_assoc, List.drop_append, hk, List.drop_of_length_le (by rw [hk]; omega), List.nil_append, Nat.add_sub_cancel_left]
    simp
theorem owns_put {w : World} {base : Nat} {e : TypeId} {g n cap : Nat} {Z : List α} (hk : ∀ x, (f x).length = k) (h : w.ownsRow base e k (.slice (some ⟨g, 0, none⟩) n cap) n (cellsC f Z)) {i : Nat} (hi : i < Z.length) (x : α) :
    (w.setCells g (i * k) (f x)).ownsRow base e k (.slice (some ⟨g, 0, none⟩) n cap) n (cellsC f (Z.set i x)) := by
  have hl : i * k + k ≤ (cellsC f Z).length := by
    rw [cellsC_len hk]
    have : (i + 1) * k ≤ Z.length * k := Nat.mul_le_mul_right _ (by omega)
    rw [Nat.add_mul] at this
    omega
  have h1 := owns_setCells (f x) (i * k) w _ h (by rw [hk]; exact hl)
  rw [hk, cellsC_splice hk x Z i hi] at h1
  exact h1
theorem owns_there {w : World} {base : Nat} {e : TypeId} {g n cap : Nat} {Z : List α} (hk : ∀ x, (f x).length = k) (h : w.ownsRow base e k (.slice (some ⟨g, 0, none⟩) n cap) n (cellsC f Z)) {i : Nat} (hi : i < Z.length) : w.there g (i * k) k := fun j hj => by
  refine ⟨?_, owns_frozen h _⟩
  have hl : i * k + j < (cellsC f Z).length := by
    rw [cellsC_len hk]
    have : (i + 1) * k ≤ Z.length * k := Nat.mul_le_mul_right _ (by omega)
    rw [Nat.add_mul] at this
    omega
  rw [owns_cell h (List.getElem?_eq_getElem hl)]
  rfl
/-- A row of as many zeros. -/
theorem made_cells {z : Array Value} (hz : z.size = k) (x : α) (hx : f x = z.toList) (h0 : 0 < k) : ∀ n : Nat, (madeCells z (n * k)).toList = cellsC f (List.replicate n x)
  | 0 => by rw [Nat.zero_mul]; simp [madeCells, cellsC]
  | n + 1 => by
    have ih := made_cells hz x hx h0 n
    rw [List.replicate_succ', cellsC_app, cellsC_one, ← ih, hx]
    unfold madeCells
    rw [Array.toList_map, Array.toList_map, Array.toList_range, Array.toList_range, show (n + 1) * k = n * k + k by rw [Nat.add_mul]; omega, List.range_add, List.map_append]
    congr 1
    rw [List.map_map]
    apply List.ext_getElem?
    intro j
    rw [List.getElem?_map]
    by_cases hj : j < k
    · rw [List.getElem?_range hj, Option.map_some, Array.getElem?_toList]
      show some (z[(n * k + j) % z.size]!) = _
      rw [hz, show (n * k + j) % k = j by rw [Nat.mul_comm, Nat.mul_add_mod, Nat.mod_eq_of_lt hj]]
      rw [getElem!_pos z j (by omega), Array.getElem?_eq_getElem (by omega)]
    · rw [List.getElem?_eq_none (by rw [List.length_range]; omega), Array.getElem?_toList, Array.getElem?_eq_none (by omega)]
      rfl
end
/-- The first i members set, zeros behind. -/
def setsL {α : Type} (l : List α) (z : α) (i : Nat) : List α := l.take i ++ List.replicate (l.length - i) z
theorem sets_len {α : Type} {l : List α} {z : α} {i : Nat} (h : i ≤ l.length) : (setsL l z i).length = l.length := by
  unfold setsL
  rw [List.length_append, List.length_take, List.length_replicate]
  omega
theorem sets_zero {α : Type} (l : List α) (z : α) : setsL l z 0 = List.replicate l.length z := by
  unfold setsL
  rw [List.take_zero, List.nil_append, Nat.sub_zero]
theorem sets_all {α : Type} (l : List α) (z : α) : setsL l z l.length = l := by
  unfold setsL
  rw [List.take_length, Nat.sub_self]
  exact List.append_nil _
theorem sets_step {α : Type} {l : List α} {z : α} {i : Nat} {x : α} (h : l[i]? = some x) : (setsL l z i).set i x = setsL l z (i + 1) := by
  obtain ⟨hi, hx⟩ := List.getElem?_eq_some_iff.1 h
  unfold setsL
  obtain ⟨k, hk⟩ : ∃ k, l.length = i + 1 + k := ⟨l.length - (i + 1), by omega⟩
  rw [hk, show i + 1 + k - i = k + 1 by omega, show i + 1 + k - (i + 1) = k by omega, List.replicate_succ, List.set_append_right _ _ (by rw [List.length_take]; omega), List.length_take, show i - min i l.length = 0 by omega, List.set_cons_zero, List.take_succ_eq_append_getElem hi, hx, List.append_assoc]
  rfl
/-- A store of several cells, at a step of a region that draws its order. -/
theorem step_store_mid {P : Program} {ops : Array Oper} {o : Oper} {a : Act} {w : World} {K : Act → World → Prop} {Q : Exit → Act → World → Prop} {E : Prop} (hgd : o.guard = none) (ty : TypeId) (x y : Operand) (ho : o.op = .store ty x y)
    (b off : Nat) (cells : Array Value) (hx : a.eval x = .pointer (some ⟨b, off, none⟩)) (hy : a.eval y = .agg cells)
    (ht : w.there b off cells.size) (hi : (P.info? ty).map (·.size) = some cells.size) (h1 : cells.all (·.oneCell') = true)
    (h : K (a.put o.dst undef) (w.setCells b off cells.toList)) : if Region.wanted o (yielded ops a.tmps) = true then Oper.wp P o a w K Q else E := by
  have hw : Region.wanted o (yielded ops a.tmps) = true := by simp [Region.wanted, hgd]
  rw [if_pos hw]
  exact wp_store_mid ty x y ho b off cells hx hy ht hi h1 h
/-- A whole row stored, at a step of a region that draws its order. -/
theorem step_store_own {P : Program} {ops : Array Oper} {o : Oper} {a : Act} {w : World} {K : Act → World → Prop} {Q : Exit → Act → World → Prop} {E : Prop} (hgd : o.guard = none) (ty : TypeId) (x y : Operand) (ho : o.op = .store ty x y)
    (g : Nat) (cells : Array Value) (hx : a.eval x = .pointer (some ⟨g, 0, none⟩)) (hy : a.eval y = .agg cells)
    (t : TypeId) (old : Array Value) (hg : w.heap[g]? = some (.cells old t (0, 0))) (hi : (P.info? ty).map (·.size) = some cells.size)
    (hold : old.size = cells.size) (h1 : cells.all (·.oneCell') = true) (h : K (a.put o.dst undef) (w.setRow g cells)) :
    if Region.wanted o (yielded ops a.tmps) = true then Oper.wp P o a w K Q else E := by
  have hw : Region.wanted o (yielded ops a.tmps) = true := by simp [Region.wanted, hgd]
  rw [if_pos hw]
  exact wp_store_row ty x y ho g cells hx hy t old hg hi hold h1 h
theorem below_setR {B g : Nat} {a w : World} (h : Below B a w) (hg : B ≤ g) (cs : Array Value) : Below B a (w.setRow g cs) :=
  ⟨h.os, h.tape, h.output, by have := h.size; simp [World.setRow]; omega, fun k hk => by rw [setRow_other _ _ _ _ (by omega)]; exact h.block k hk⟩
theorem owns_low {w : World} {b c : Nat} {e : TypeId} {size n : Nat} {v : Value} {xs : List Value} (h : w.ownsRow b e size v n xs) (hc : c ≤ b) : w.ownsRow c e size v n xs := by
  refine ⟨h.1, ?_⟩
  rcases h.2 with q | ⟨g, cap, cur, q1, q2, q3⟩
  · exact .inl q
  · exact .inr ⟨g, cap, cur, q1, Nat.le_trans hc q2, q3⟩
theorem three_new (w : World) (a b c : Obj) : ((((w.alloc a).alloc b).alloc c).heap[w.heap.size]? = some a) ∧ ((((w.alloc a).alloc b).alloc c).heap[w.heap.size + 1]? = some b) ∧ ((((w.alloc a).alloc b).alloc c).heap[w.heap.size + 1 + 1]? = some c) := by
  have s1 : (w.alloc a).heap.size = w.heap.size + 1 := by simp
  have s2 : ((w.alloc a).alloc b).heap.size = w.heap.size + 1 + 1 := by simp
  refine ⟨?_, ?_, ?_⟩
  · rw [heap_alloc_old _ _ (by omega), heap_alloc_old _ _ (by omega)]
    exact heap_alloc_new _ _
  · rw [heap_alloc_old _ _ (by omega), ← s1]
    exact heap_alloc_new _ _
  · rw [← s2]
    exact heap_alloc_new _ _
theorem two_new (w : World) (a b : Obj) : ((w.alloc a).alloc b).heap[w.heap.size]? = some a ∧ ((w.alloc a).alloc b).heap[w.heap.size + 1]? = some b := by
  have s1 : (w.alloc a).heap.size = w.heap.size + 1 := by simp
  refine ⟨?_, ?_⟩
  · rw [heap_alloc_old _ _ (by omega)]
    exact heap_alloc_new _ _
  · rw [← s1]
    exact heap_alloc_new _ _
/-- A row of another type. -/
theorem ne_type {w : World} {b : Nat} {e t : TypeId} {s n k : Nat} {v : Value} {xs : List Value} {cur : Array Value} {fr : Nat × Nat} (ho : w.ownsRow b e s v n xs) (hx : w.heap[k]? = some (.cells cur t fr)) (h : t ≠ e) : some k ≠ v.ownBlock := fun q => by
  obtain ⟨c, hc⟩ := owns_type ho q.symm
  rw [hx] at hc
  simp only [Option.some.injEq, Obj.cells.injEq] at hc
  exact h hc.2.1
end Go.Proofs.YtigkdehaepenhaaGreatDoor.B

namespace Go.Proofs.YtigkdehaepenhaaGreatDoor.J
open Go.Proofs.YtigkdehaepenhaaGreatDoor.B
open Go.RowKit

theorem range_of {w : World} {b : Nat} {cs : List Value} {t : TypeId} {fr : Nat × Nat} (h : w.heap[b]? = some (.cells cs.toArray t fr)) : w.rangeAt b 0 cs := fun j v hv => by
  rw [cell_of_row _ _ _ _ _ _ h, Nat.zero_add]
  simpa using hv
/-- A part of a row. -/
theorem range_mid {w : World} {b : Nat} {xs cs ys : List Value} {t : TypeId} {fr : Nat × Nat} (h : w.heap[b]? = some (.cells (xs ++ cs ++ ys).toArray t fr)) : w.rangeAt b xs.length cs := fun j v hv => by
  have hj := (List.getElem?_eq_some_iff.1 hv).1
  rw [cell_of_row _ _ _ _ _ _ h]
  show (xs ++ cs ++ ys).toArray[xs.length + j]? = some v
  rw [List.getElem?_toArray, List.getElem?_append_left (by rw [List.length_append]; omega), List.getElem?_append_right (by omega), Nat.add_sub_cancel_left]
  exact hv

theorem below_a2 (w : World) (a b : Obj) : Below w.heap.size w ((w.alloc a).alloc b) := by
  have h1 := (Below.refl w.heap.size w).alloc (Nat.le_refl _) a
  exact h1.alloc h1.size b
theorem below_a3 (w : World) (a b c : Obj) : Below w.heap.size w (((w.alloc a).alloc b).alloc c) := (below_a2 w a b).alloc (below_a2 w a b).size c
theorem owns_apart {w : World} {b1 b2 : Nat} {e1 e2 : TypeId} {s1 s2 n1 n2 : Nat} {v1 v2 : Value} {x1 x2 : List Value} (h1 : w.ownsRow b1 e1 s1 v1 n1 x1) (h2 : w.ownsRow b2 e2 s2 v2 n2 x2) (hne : e1 ≠ e2) : v1.ownBlock = none ∨ v1.ownBlock ≠ v2.ownBlock := by
  cases hk : v1.ownBlock with
  | none => exact .inl rfl
  | some k =>
    refine .inr fun e => ?_
    obtain ⟨c1, h1⟩ := owns_type h1 hk
    obtain ⟨c2, h2⟩ := owns_type h2 e.symm
    rw [h1] at h2
    simp only [Option.some.injEq, Obj.cells.injEq] at h2
    exact hne h2.2.1
end Go.Proofs.YtigkdehaepenhaaGreatDoor.J

namespace Go.Proofs.YtigkdehaepenhaaGreatDoor.S
open Go.Lib

/-- A format written: 'one' says what a directive writes, or that it is none. -/
def fmtL (one : UInt8 → Option (List UInt8)) : List UInt8 → List UInt8
  | [] => []
  | [c] => [c]
  | c :: e :: r => if c = 37 then (match one e with | some s => s ++ fmtL one r | none => c :: fmtL one (e :: r)) else c :: fmtL one (e :: r)
theorem fmtL_nil (one : UInt8 → Option (List UInt8)) : fmtL one [] = [] := by rw [fmtL]
theorem fmtL_last (one : UInt8 → Option (List UInt8)) (c : UInt8) : fmtL one [c] = [c] := by rw [fmtL]
theorem fmtL_plain (one : UInt8 → Option (List UInt8)) {c : UInt8} (r : List UInt8) (h : c ≠ 37) : fmtL one (c :: r) = c :: fmtL one r := by
  cases r with
  | nil => rw [fmtL_last, fmtL_nil]
  | cons e r => rw [fmtL, if_neg h]
theorem fmtL_told (one : UInt8 → Option (List UInt8)) {e : UInt8} {s : List UInt8} (r : List UInt8) (h : one e = some s) : fmtL one (37 :: e :: r) = s ++ fmtL one r := by
  rw [fmtL, if_pos rfl, h]
theorem fmtL_none (one : UInt8 → Option (List UInt8)) {e : UInt8} (r : List UInt8) (h : one e = none) : fmtL one (37 :: e :: r) = 37 :: fmtL one (e :: r) := by
  rw [fmtL, if_pos rfl, h]
/-- Two formats, the first of which doesn't end with a %, are written one behind the other. -/
theorem fmtL_append (one : UInt8 → Option (List UInt8)) (g : List UInt8) : ∀ (k : Nat) (f : List UInt8), f.length ≤ k → f.getLast? ≠ some 37 → fmtL one (f ++ g) = fmtL one f ++ fmtL one g
  | _, [], _, _ => by rw [fmtL_nil]; rfl
  | 0, _ :: _, h, _ => by simp at h
  | k + 1, c :: r, h, hl => by
    have hk : r.length ≤ k := by simpa using h
    by_cases hc : c = 37
    · subst hc
      cases r with
      | nil => exact absurd rfl hl
      | cons e r =>
        have hl2 : (e :: r).getLast? ≠ some 37 := by simpa using hl
        rw [List.cons_append, List.cons_append]
        cases ho : one e with
        | none =>
          rw [fmtL_none one _ ho, fmtL_none one _ ho, ← List.cons_append, fmtL_append one g k (e :: r) hk hl2, List.cons_append]
        | some s =>
          rw [fmtL_told one _ ho, fmtL_told one _ ho, fmtL_append one g k r (by simp at hk; omega) ?_, List.append_assoc]
          cases r with
          | nil => simp
          | cons x r => simpa using hl2
    · rw [List.cons_append, fmtL_plain one _ hc, fmtL_plain one _ hc, List.cons_append]
      rw [fmtL_append one g k r hk ?_]
      cases r with
      | nil => simp
      | cons x r => simpa using hl
/-- How long it gets. -/
theorem fmtL_length (one : UInt8 → Option (List UInt8)) (m : Nat) (hm : ∀ e s, one e = some s → s.length ≤ m) (h1 : 1 ≤ m) : ∀ (k : Nat) (f : List UInt8), f.length ≤ k → (fmtL one f).length ≤ m * f.length
  | _, [], _ => by rw [fmtL_nil]; simp
  | 0, _ :: _, h => by simp at h
  | k + 1, c :: r, h => by
    have hk : r.length ≤ k := by simpa using h
    have hr := fmtL_length one m hm h1 k r hk
    have e1 : m * (c :: r).length = m * r.length + m := by rw [List.length_cons, Nat.mul_succ]
    by_cases hc : c = 37
    · subst hc
      cases r with
      | nil => rw [fmtL_last]; simpa using h1
      | cons e r =>
        cases ho : one e with
        | none =>
          rw [fmtL_none one _ ho, e1, List.length_cons]
          omega
        | some s =>
          have hs := hm e s ho
          have hr2 := fmtL_length one m hm h1 k r (by simp at hk; omega)
          have e2 : m * (e :: r).length = m * r.length + m := by rw [List.length_cons, Nat.mul_succ]
          rw [fmtL_told one _ ho, e1, List.length_append]
          omega
    · rw [fmtL_plain one _ hc, e1, List.length_cons]
      omega

/-- A number below 100 in two digits, one below 1000 in three. -/
def twoL (n : Nat) : List UInt8 := [UInt8.ofNat (48 + n / 10 % 10), UInt8.ofNat (48 + n % 10)]
def threeL (n : Nat) : List UInt8 := UInt8.ofNat (48 + n / 100) :: twoL (n % 100)
theorem itoa_two : ∀ n : Fin 100, itoa (n.val : Int) = if n.val < 10 then [UInt8.ofNat (48 + n.val)] else twoL n.val := by decide +kernel
theorem itoa_three : ∀ n : Fin 1000, itoa (n.val : Int) = if n.val < 10 then [UInt8.ofNat (48 + n.val)] else if n.val < 100 then twoL n.val else threeL n.val := by decide +kernel
theorem two_small (n : Nat) (h : n < 10) : twoL n = 48 :: [UInt8.ofNat (48 + n)] := by
  unfold twoL
  rw [show n / 10 % 10 = 0 by omega, show n % 10 = n by omega]
  rfl
theorem three_small (n : Nat) (h : n < 100) : threeL n = 48 :: twoL n := by
  unfold threeL
  rw [show n / 100 = 0 by omega, show n % 100 = n by omega]
  rfl
end Go.Proofs.YtigkdehaepenhaaGreatDoor.S

namespace Go.Proofs.YtigkdehaepenhaaGreatDoor.J
open Go.Proofs.YtigkdehaepenhaaGreatDoor.B

abbrev By := List UInt8
def dirW : By := [100, 105, 114, 101, 99, 116, 111, 114, 121]
def lnkW : By := [115, 121, 109, 98, 111, 108, 105, 99, 32, 108, 105, 110, 107]
def emptyW : By := [114, 101, 103, 117, 108, 97, 114, 32, 101, 109, 112, 116, 121, 32, 102, 105, 108, 101]
def fileW : By := [114, 101, 103, 117, 108, 97, 114, 32, 102, 105, 108, 101]
/-- What a node is, in words. -/
def whatL (n : P.Nv) : By := if n.kind = 2 then dirW else if n.kind = 3 then lnkW else if n.size = 0 then emptyW else fileW
def octL (m : Int) : By := N.digB (8 : Int).toNat m.toNat
/-- What a directive tells. -/
def oneJ (n : P.Nv) (nm qt : By) (c : UInt8) : Option By :=
  if c = 110 then some nm
  else if c = 78 then some qt
  else if c = 115 then some (Lib.itoa n.size)
  else if c = 98 then some (Lib.itoa n.blocks)
  else if c = 97 then some (octL n.mode)
  else if c = 65 then some (P.textP n.kind n.mode)
  else if c = 117 then some (Lib.itoa n.uid)
  else if c = 103 then some (Lib.itoa n.gid)
  else if c = 105 then some (Lib.itoa n.ino)
  else if c = 100 then some (Lib.itoa n.dev)
  else if c = 104 then some (Lib.itoa n.links)
  else if c = 70 then some (whatL n)
  else if c = 88 then some (Lib.itoa n.ta)
  else if c = 89 then some (Lib.itoa n.tb)
  else if c = 90 then some (Lib.itoa n.tc)
  else if c = 37 then some [37]
  else none
def txt (l : By) : ByteArray := ⟨l.toArray⟩
theorem txt_size (l : By) : (txt l).size = l.length := by show l.toArray.size = _; simp
theorem txt_append (a b : By) : txt a ++ txt b = txt (a ++ b) := by
  unfold txt
  rw [ByteArray.mk_append_mk]
theorem txt_list (l : By) : (txt l).data.toList = l := by simp [txt]
theorem txt_of (s : ByteArray) : txt s.data.toList = s := by cases s; rfl
theorem itoa_len {n : Int} (h : I64 n) : (Lib.itoa n).length ≤ 21 := Lib.itoa_length_le n h.1 h.2
theorem what_len (n : P.Nv) : (whatL n).length ≤ 18 := by
  unfold whatL
  repeat' split
  all_goals decide
theorem textP_len (k m : Int) : (P.textP k m).length ≤ 10 := by
  unfold P.textP P.kindL P.clsL
  repeat' split
  all_goals simp
theorem oct_len {m : Int} (h0 : 0 ≤ m) (h1 : m < 4096) : (octL m).length ≤ 64 := N.digB_size 8 m (by decide) (by omega)
theorem oneJ_len {n : P.Nv} (h : NumJ n) {nm qt : By} {K : Nat} (h1 : nm.length ≤ K) (h2 : qt.length ≤ K) (h3 : 64 ≤ K) (c : UInt8) (s : By) (hs : oneJ n nm qt c = some s) : s.length ≤ K := by
  unfold oneJ at hs
  have a1 := itoa_len h.size
  have a2 := itoa_len h.blk
  have a3 := itoa_len h.uid
  have a4 := itoa_len h.gid
  have a5 := itoa_len h.ino
  have a6 := itoa_len h.dev
  have a7 := itoa_len h.lnk
  have a8 := itoa_len h.ta
  have a9 := itoa_len h.tb
  have b1 := itoa_len h.tc
  have b2 := what_len n
  have b3 := textP_len n.kind n.mode
  have b4 := oct_len h.m0 h.m1
  by_cases e110 : c = 110
  · rw [if_pos e110] at hs
    obtain rfl := Option.some.inj hs
    omega
  rw [if_neg e110] at hs
  by_cases e78 : c = 78
  · rw [if_pos e78] at hs
    obtain rfl := Option.some.inj hs
    omega
  rw [if_neg e78] at hs
  by_cases e115 : c = 115
  · rw [if_pos e115] at hs
    obtain rfl := Option.some.inj hs
    omega
  rw [if_neg e115] at hs
  by_cases e98 : c = 98
  · rw [if_pos e98] at hs
    obtain rfl := Option.some.inj hs
    omega
  rw [if_neg e98] at hs
  by_cases e97 : c = 97
  · rw [if_pos e97] at hs
    obtain rfl := Option.some.inj hs
    omega
  rw [if_neg e97] at hs
  by_cases e65 : c = 65
  · rw [if_pos e65] at hs
    obtain rfl := Option.some.inj hs
    omega
  rw [if_neg e65] at hs
  by_cases e117 : c = 117
  · rw [if_pos e117] at hs
    obtain rfl := Option.some.inj hs
    omega
  rw [if_neg e117] at hs
  by_cases e103 : c = 103
  · rw [if_pos e103] at hs
    obtain rfl := Option.some.inj hs
    omega
  rw [if_neg e103] at hs
  by_cases e105 : c = 105
  · rw [if_pos e105] at hs
    obtain rfl := Option.some.inj hs
    omega
  rw [if_neg e105] at hs
  by_cases e100 : c = 100
  · rw [if_pos e100] at hs
    obtain rfl := Option.some.inj hs
    omega
  rw [if_neg e100] at hs
  by_cases e104 : c = 104
  · rw [if_pos e104] at hs
    obtain rfl := Option.some.inj hs
    omega
  rw [if_neg e104] at hs
  by_cases e70 : c = 70
  · rw [if_pos e70] at hs
    obtain rfl := Option.some.inj hs
    omega
  rw [if_neg e70] at hs
  by_cases e88 : c = 88
  · rw [if_pos e88] at hs
    obtain rfl := Option.some.inj hs
    omega
  rw [if_neg e88] at hs
  by_cases e89 : c = 89
  · rw [if_pos e89] at hs
    obtain rfl := Option.some.inj hs
    omega
  rw [if_neg e89] at hs
  by_cases e90 : c = 90
  · rw [if_pos e90] at hs
    obtain rfl := Option.some.inj hs
    omega
  rw [if_neg e90] at hs
  by_cases e37 : c = 37
  · rw [if_pos e37] at hs
    obtain rfl := Option.some.inj hs
    show 1 ≤ K; omega
  rw [if_neg e37] at hs
  cases hs
def arrow : ByteArray := ⟨#[32, 45, 62, 32]⟩
/-- A node's name in quotes, and a link's text. -/
def quotB (qf : ByteArray → ByteArray) (k : Int) (s t : ByteArray) : ByteArray := if k = 3 then qf s ++ (arrow ++ qf t) else qf s
/-- What a format tells. -/
def fmtJ (n : P.Nv) (nm qt : By) (l : By) : By := S.fmtL (oneJ n nm qt) l
theorem oneJ_pct (n : P.Nv) (nm qt : By) : oneJ n nm qt 37 = some [37] := rfl
theorem fmtJ_pair (n : P.Nv) (nm qt : By) (e : UInt8) (r : By) : fmtJ n nm qt (37 :: e :: r) = (oneJ n nm qt e).getD [37, e] ++ fmtJ n nm qt r := by
  unfold fmtJ
  cases h : oneJ n nm qt e with
  | some s => rw [S.fmtL_told _ _ h]; rfl
  | none =>
    rw [S.fmtL_none _ _ h, S.fmtL_plain]
    · rfl
    · intro hc
      subst hc
      rw [oneJ_pct] at h
      cases h
theorem fmtJ_len {n : P.Nv} (h : NumJ n) {nm qt : By} {K : Nat} (h1 : nm.length ≤ K) (h2 : qt.length ≤ K) (h3 : 64 ≤ K) (l : By) : (fmtJ n nm qt l).length ≤ K * l.length :=
  S.fmtL_length _ K (fun c s hs => oneJ_len h h1 h2 h3 c s hs) (by omega) l.length l (Nat.le_refl _)
/-- Bytes without a % stay as they are. -/
theorem fmtJ_plain (n : P.Nv) (nm qt : By) : ∀ (a r : By), (∀ c ∈ a, c ≠ 37) → fmtJ n nm qt (a ++ r) = a ++ fmtJ n nm qt r
  | [], r, _ => rfl
  | c :: a, r, h => by
    have ih := fmtJ_plain n nm qt a r fun x hx => h x (List.mem_cons_of_mem _ hx)
    unfold fmtJ at ih ⊢
    rw [List.cons_append, S.fmtL_plain _ _ (h c List.mem_cons_self), ih]
    rfl
theorem fmtJ_none (n : P.Nv) (nm qt : By) (a : By) (h : ∀ c ∈ a, c ≠ 37) : fmtJ n nm qt a = a := by
  have := fmtJ_plain n nm qt a [] h
  rw [List.append_nil] at this
  rw [this]
  show a ++ S.fmtL _ [] = a
  rw [S.fmtL_nil, List.append_nil]
/-- A % alone at the end stays as it is. -/
theorem fmtJ_end (n : P.Nv) (nm qt : By) (a : By) (h : ∀ c ∈ a, c ≠ 37) : fmtJ n nm qt (a ++ [37]) = a ++ [37] := by
  rw [fmtJ_plain n nm qt a _ h]
  show a ++ S.fmtL _ [37] = _
  rw [S.fmtL_last]
theorem fmtJ_no {n : P.Nv} {nm qt l : By} (h : Lib.indexByte l 37 = -1) : fmtJ n nm qt l = l := fmtJ_none n nm qt l fun c hc e => by
  obtain ⟨k, hk⟩ := List.mem_iff_getElem?.1 hc
  exact Lib.indexByte_none h k (by rw [hk, e])
theorem at_split {l : By} {i : Nat} (h : Lib.indexByte l 37 = (i : Int)) : i < l.length ∧ (∀ c ∈ l.take i, c ≠ 37) ∧ l.drop i = 37 :: l.drop (i + 1) := by
  obtain ⟨h1, h2⟩ := Lib.indexByte_some h
  obtain ⟨hi, he⟩ := List.getElem?_eq_some_iff.1 h1
  refine ⟨hi, fun c hc e => ?_, by rw [List.drop_eq_getElem_cons hi, he]⟩
  obtain ⟨k, hk⟩ := List.mem_iff_getElem?.1 hc
  rw [List.getElem?_take] at hk
  split at hk
  · exact h2 k (by assumption) (by rw [hk, e])
  · cases hk
theorem fmtJ_last {n : P.Nv} {nm qt l : By} {i : Nat} (h : Lib.indexByte l 37 = (i : Int)) (hl : i + 1 = l.length) : fmtJ n nm qt l = l := by
  obtain ⟨_, h2, h3⟩ := at_split h
  have e : l = l.take i ++ [37] := by
    conv => lhs; rw [← List.take_append_drop i l, h3]
    rw [List.drop_of_length_le (by omega)]
  rw [e]
  exact fmtJ_end n nm qt _ h2
theorem fmtJ_step {n : P.Nv} {nm qt l : By} {i : Nat} {c : UInt8} (h : Lib.indexByte l 37 = (i : Int)) (hc : l[i + 1]? = some c) : fmtJ n nm qt l = l.take i ++ ((oneJ n nm qt c).getD [37, c] ++ fmtJ n nm qt (l.drop (i + 2))) := by
  obtain ⟨_, h2, h3⟩ := at_split h
  obtain ⟨hi, he⟩ := List.getElem?_eq_some_iff.1 hc
  have e : l.drop (i + 1) = c :: l.drop (i + 2) := by rw [List.drop_eq_getElem_cons hi, he]
  conv => lhs; rw [← List.take_append_drop i l, h3, e]
  rw [fmtJ_plain n nm qt _ _ h2, fmtJ_pair]
/-- Two formats, the first of which doesn't end with a %, are told one behind the other. -/
theorem fmtJ_append (n : P.Nv) (nm qt : By) (f g : By) (h : f.getLast? ≠ some 37) : fmtJ n nm qt (f ++ g) = fmtJ n nm qt f ++ fmtJ n nm qt g := S.fmtL_append _ g f.length f (Nat.le_refl _) h
end Go.Proofs.YtigkdehaepenhaaGreatDoor.J
