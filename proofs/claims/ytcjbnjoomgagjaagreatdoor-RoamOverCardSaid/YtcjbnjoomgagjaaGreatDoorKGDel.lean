/-
  A region that draws its order, whose operation number z waits for others and may write what they read: what is said of the world (S) holds till z comes up, and no longer; and what append does with a row behind it (stage 6's texts, apart from file systems). Conditions: each law's own.
-/
import Derived.Test.YtcjbnjoomgagjaaGreatDoorKORefA
import Derived.Deep.RegionHeld3
import Derived.Laws.AppendOwnNone
import Derived.Test.YtcjbnjoomgagjaaGreatDoorKGTree
import Derived.Deep.AppendLies
import Derived.Test.YtcjbnjoomgagjaaGreatDoorKPMay
import Derived.StillTailTactics
import Derived.Deep.MidRow
import Derived.Deep.WholeRow
import Derived.Deep.RegionLaw
import Derived.Test.YtcjbnjoomgagjaaGreatDoorShelf
import Derived.Laws.CopyRow
set_option linter.unusedVariables false
set_option linter.unusedSimpArgs false
namespace Go.Proofs.YtcjbnjoomgagjaaGreatDoor.B
open Go.RowKit
section
variable {P : Program} {ops : Array Oper} {Q : Exit → Act → World → Prop} {md : Region.Mode} {S : World → Prop} {z : Nat}
def Till (P : Program) (md : Region.Mode) (ops : Array Oper) (Q : Exit → Act → World → Prop) (S : World → Prop) (z : Nat) : Nat → Array Bool → Act → World → Prop
  | 0 => fun up a w => Region.ready md ops up = [] ∧ Q .normal a w
  | n + 1 => fun up a w => (Region.ready md ops up = [] → Q .normal a w) ∧ ∀ i, i ∈ Region.ready md ops up → wpOp P ops Q i (fun a' w' => (i ≠ z → S w') ∧ Till P md ops Q S z n (up.setIfInBounds i true) a' w') a w
theorem Till.any : ∀ {n : Nat} {up : Array Bool} {a : Act} {w : World}, Till P md ops Q S z n up a w → wpAny P md ops Q n up a w
  | 0, _, _, _, h => h
  | n + 1, _, _, _, h => ⟨h.1, fun i hi => wpOp_mono (fun _ _ q => Till.any q.2) (h.2 i hi)⟩
theorem Till.region {id : Nat} {a : Act} {w : World} (hm : P.follows .mixedOrders = true) (hS : S w.drew) (h : S w.drew → Till P .any ops Q S z ops.size (Array.replicate ops.size false) a w.drew) : (Code.region id ops true).wp P Q a w :=
  wp_region_any hm (Till.any (h hS))
def waitsB (md : Region.Mode) (ops : Array Oper) (z i : Nat) : Bool := match ops[z]? with
  | some o => o.after.any fun e => Region.binds md e && e.on == i
  | none => false
theorem waits_not {i j : Nat} {up : Array Bool} (hz : waitsB md ops z i = true) (hi : i ∈ Region.ready md ops up) (hj : j ∈ Region.ready md ops up) : j ≠ z := by
  rintro rfl
  obtain ⟨_, o, ho, hall⟩ := mem_ready.1 hj
  unfold waitsB at hz
  rw [ho] at hz
  obtain ⟨e, he, hb⟩ := Array.any_eq_true'.1 hz
  simp only [Bool.and_eq_true, beq_iff_eq] at hb
  have h1 := hall e he hb.1
  rw [hb.2] at h1
  have h0 := (mem_ready.1 hi).1
  rcases Nat.lt_or_ge i up.size with q | q
  · simp [q] at h0 h1
    rw [h0] at h1
    cases h1
  · simp [Array.getElem?_eq_none q] at h1
theorem Till.front {i : Nat} {oi : Oper} {v : Value} (hi : ops[i]? = some oi) (hsel : ∀ (j : Nat) (o : Oper) cs b, ops[j]? = some o → o.op ≠ .select cs b) (hQ : ∀ c a w, Q (.panic c) (a.put oi.dst v) w → Q (.panic c) a w) (hz : waitsB md ops z i = true) :
    ∀ (n : Nat) (up : Array Bool) (a : Act) (w : World), (∀ j oj, ops[j]? = some oj → j ≠ i → up.getD j true = false → (∀ e ∈ oj.after, Region.binds md e = true → e.on ≠ i) → oi.apart ops oj = true) → i ∈ Region.ready md ops up → YieldsIf P ops S oi v a → S w →
      Till P md ops Q S z n (up.setIfInBounds i true) (a.put oi.dst v) w → Till P md ops Q S z (n + 1) up a w := by
  have one : ∀ {K : Act → World → Prop} {a : Act} {w : World}, YieldsIf P ops S oi v a → S w → K (a.put oi.dst v) w → wpOp P ops Q i K a w := fun hy hS hK => hy.wpOp hi hS hK
  have none : ∀ {up : Array Bool} {C : Prop}, i ∈ Region.ready md ops up → Region.ready md ops up = [] → C := fun hr h => by rw [h] at hr; cases hr
  intro n
  induction n with
  | zero =>
    intro up a w _ hr hy hS T
    refine ⟨none hr, fun j hj => ?_⟩
    rcases Classical.em (j = i) with e | e
    · rw [e]; exact one hy hS ⟨fun _ => hS, T⟩
    · have m := ready_mono (i := i) hj e
      rw [T.1] at m
      cases m
  | succ n ih =>
    intro up a w hfree hr hy hS T
    refine ⟨none hr, fun j hj => ?_⟩
    rcases Classical.em (j = i) with e | e
    · rw [e]; exact one hy hS ⟨fun _ => hS, T⟩
    · have hjz : j ≠ z := waits_not hz hr hj
      obtain ⟨hup, oj, hoj, hall⟩ := mem_ready.1 hj
      have hun : ∀ d ∈ oj.after, Region.binds md d = true → d.on ≠ i := fun d hd hb q => by
        have h1 := hall d hd hb
        rw [q] at h1
        have h0 := (mem_ready.1 hr).1
        rcases Nat.lt_or_ge i up.size with g | g
        · simp [g] at h0 h1
          rw [h0] at h1
          cases h1
        · simp [Array.getElem?_eq_none g] at h1
      have step := wpOp_putIf hoj (hfree j oj hoj e hup hun) (fun cs b => hsel i oi cs b hi) (fun cs b => hsel j oj cs b hoj) hQ hy (T.2 j (ready_mono hj e))
      refine wpOp_mono (fun a' w' q => ⟨fun _ => q.2.1 hjz, ih _ a' w' (fun k ok hk hki hku hkn => hfree k ok hk hki ?_ hkn) (ready_mono hr (Ne.symm e)) q.1 (q.2.1 hjz) ?_⟩) step
      · rcases Classical.em (j = k) with g | g
        · rw [← g]; exact hup
        · rw [getD_set_ne true g] at hku; exact hku
      · rw [Array.setIfInBounds_comm _ _ e]
        exact q.2.2
theorem Till.take {i : Nat} {oi : Oper} {v : Value} {n : Nat} {up : Array Bool} {a : Act} {w : World} (hi : ops[i]? = some oi) (hs : Region.noSelect ops = true) (hf : Region.free md ops up i = true) (hr : (Region.ready md ops up).contains i = true) (hz : waitsB md ops z i = true)
    (hQ : ∀ c a w, Q (.panic c) (a.put oi.dst v) w → Q (.panic c) a w) (hy : YieldsIf P ops S oi v a) (hS : S w) (h : Till P md ops Q S z n (up.setIfInBounds i true) (a.put oi.dst v) w) : Till P md ops Q S z (n + 1) up a w :=
  Till.front hi (Region.noSelect_spec hs) hQ hz n up a w (Region.free_spec hi hf) (by simpa using hr) hy hS h
theorem Till.next {i : Nat} {o : Oper} {n : Nat} {up : Array Bool} {a : Act} {w : World} (hr : Region.ready md ops up = [i]) (ho : ops[i]? = some o)
    (h : ∀ K : Act → World → Prop, Shut (∀ a w, (i ≠ z → S w) → Till P md ops Q S z n (up.setIfInBounds i true) a w → K a w) → if Region.wanted o (yielded ops a.tmps) = true then Oper.wp P o a w K Q else K (a.put o.dst undef) w) : Till P md ops Q S z (n + 1) up a w := by
  refine ⟨fun e => absurd e (by rw [hr]; exact List.cons_ne_nil _ _), fun j hj => ?_⟩
  rw [hr] at hj
  obtain rfl := List.mem_singleton.1 hj
  exact wpOp_step ho fun K hK => h K (fun a w hS hT => hK a w ⟨hS, hT⟩)
theorem Till.done {n : Nat} {up : Array Bool} {a : Act} {w : World} (hr : Region.ready md ops up = []) (h : Q .normal a w) : Till P md ops Q S z n up a w := by
  match n with
  | 0 => exact And.intro hr h
  | n + 1 =>
    refine ⟨fun _ => h, fun i hi => ?_⟩
    rw [hr] at hi
    cases hi
theorem Till.two {i j : Nat} {o o' : Oper} {n : Nat} {up : Array Bool} {a : Act} {w : World} (hr : Region.ready md ops up = [i, j]) (ho : ops[i]? = some o) (ho' : ops[j]? = some o')
    (h : ∀ K : Act → World → Prop, Shut (∀ a w, (i ≠ z → S w) → Till P md ops Q S z n (up.setIfInBounds i true) a w → K a w) → if Region.wanted o (yielded ops a.tmps) = true then Oper.wp P o a w K Q else K (a.put o.dst undef) w)
    (h' : ∀ K : Act → World → Prop, Shut (∀ a w, (j ≠ z → S w) → Till P md ops Q S z n (up.setIfInBounds j true) a w → K a w) → if Region.wanted o' (yielded ops a.tmps) = true then Oper.wp P o' a w K Q else K (a.put o'.dst undef) w) : Till P md ops Q S z (n + 1) up a w := by
  refine ⟨fun e => absurd e (by rw [hr]; exact List.cons_ne_nil _ _), fun k hk => ?_⟩
  rw [hr] at hk
  have hk2 : k = i ∨ k = j := by simpa using hk
  rcases hk2 with q | q
  · rw [q]; exact wpOp_step ho fun K hK => h K (fun a w hS hT => hK a w ⟨hS, hT⟩)
  · rw [q]; exact wpOp_step ho' fun K hK => h' K (fun a w hS hT => hK a w ⟨hS, hT⟩)
theorem Till.frontA {i : Nat} {oi : Oper} {v : Value} (hi : ops[i]? = some oi) (hsel : ∀ (j : Nat) (o : Oper) cs b, ops[j]? = some o → o.op ≠ .select cs b) (hQ : ∀ c a w, Q (.panic c) (a.put oi.dst v) w → Q (.panic c) a w) (hz : ops[z]? = none) :
    ∀ (n : Nat) (up : Array Bool) (a : Act) (w : World), (∀ j oj, ops[j]? = some oj → j ≠ i → up.getD j true = false → (∀ e ∈ oj.after, Region.binds md e = true → e.on ≠ i) → oi.apart ops oj = true) → i ∈ Region.ready md ops up → YieldsIf P ops S oi v a → S w →
      Till P md ops Q S z n (up.setIfInBounds i true) (a.put oi.dst v) w → Till P md ops Q S z (n + 1) up a w := by
  have one : ∀ {K : Act → World → Prop} {a : Act} {w : World}, YieldsIf P ops S oi v a → S w → K (a.put oi.dst v) w → wpOp P ops Q i K a w := fun hy hS hK => hy.wpOp hi hS hK
  have none : ∀ {up : Array Bool} {C : Prop}, i ∈ Region.ready md ops up → Region.ready md ops up = [] → C := fun hr h => by rw [h] at hr; cases hr
  intro n
  induction n with
  | zero =>
    intro up a w _ hr hy hS T
    refine ⟨none hr, fun j hj => ?_⟩
    rcases Classical.em (j = i) with e | e
    · rw [e]; exact one hy hS ⟨fun _ => hS, T⟩
    · have m := ready_mono (i := i) hj e
      rw [T.1] at m
      cases m
  | succ n ih =>
    intro up a w hfree hr hy hS T
    refine ⟨none hr, fun j hj => ?_⟩
    rcases Classical.em (j = i) with e | e
    · rw [e]; exact one hy hS ⟨fun _ => hS, T⟩
    · obtain ⟨hup, oj, hoj, hall⟩ := mem_ready.1 hj
      have hjz : j ≠ z := fun q => by
        rw [q, hz] at hoj
        cases hoj
      have hun : ∀ d ∈ oj.after, Region.binds md d = true → d.on ≠ i := fun d hd hb q => by
        have h1 := hall d hd hb
        rw [q] at h1
        have h0 := (mem_ready.1 hr).1
        rcases Nat.lt_or_ge i up.size with g | g
        · simp [g] at h0 h1
          rw [h0] at h1
          cases h1
        · simp [Array.getElem?_eq_none g] at h1
      have step := wpOp_putIf hoj (hfree j oj hoj e hup hun) (fun cs b => hsel i oi cs b hi) (fun cs b => hsel j oj cs b hoj) hQ hy (T.2 j (ready_mono hj e))
      refine wpOp_mono (fun a' w' q => ⟨fun _ => q.2.1 hjz, ih _ a' w' (fun k ok hk hki hku hkn => hfree k ok hk hki ?_ hkn) (ready_mono hr (Ne.symm e)) q.1 (q.2.1 hjz) ?_⟩) step
      · rcases Classical.em (j = k) with g | g
        · rw [← g]; exact hup
        · rw [getD_set_ne true g] at hku; exact hku
      · rw [Array.setIfInBounds_comm _ _ e]
        exact q.2.2
theorem Till.takeA {i : Nat} {oi : Oper} {v : Value} {n : Nat} {up : Array Bool} {a : Act} {w : World} (hi : ops[i]? = some oi) (hs : Region.noSelect ops = true) (hf : Region.free md ops up i = true) (hr : (Region.ready md ops up).contains i = true) (hz : ops[z]? = none)
    (hQ : ∀ c a w, Q (.panic c) (a.put oi.dst v) w → Q (.panic c) a w) (hy : YieldsIf P ops S oi v a) (hS : S w) (h : Till P md ops Q S z n (up.setIfInBounds i true) (a.put oi.dst v) w) : Till P md ops Q S z (n + 1) up a w :=
  Till.frontA hi (Region.noSelect_spec hs) hQ hz n up a w (Region.free_spec hi hf) (by simpa using hr) hy hS h
end
section
variable {P : Program} {w : World}
theorem wp_append_row {o : Oper} {a : Act} {K : Act → World → Prop} {Q : Exit → Act → World → Prop} (s x : Operand) (t : TypeId)
    (ho : o.op = .call { callee := .builtin .append, args := #[s, x], argTypes := #[t, t] })
    (base : Nat) (e : TypeId) (i : TypeInfo) (z : Value) (size bytes : Nat) (ht : P.underlying t = some (.slice e)) (hi : P.info? e = some i) (hz : i.zero = some z)
    (hsize : i.size = size) (hby : i.bytes = bytes) (hzs : z.cells.size = size) (hsz : 0 < size)
    (v : Value) (n : Nat) (xs : List Value) (hs : a.eval s = v) (hown : w.ownsRow base e size v n xs) (u : Value) (m : Nat) (ys : List Value) (hx : a.eval x = u) (hsrc : w.ownsRow 0 e size u m ys) (h1 : ∀ y ∈ ys, y.oneCell' = true)
    (h63 : n + m ≤ maxLen) (hbytes : (n + m) * bytes ≤ 140737488355328) (hbase : base ≤ w.heap.size)
    (h : ∀ v' w', w'.ownsRow base e size v' (n + m) (xs ++ ys) → w.grownBy w' v.ownBlock → K (a.put o.dst v') w') : o.wp P a w K Q := by
  rcases hsrc.2 with ⟨rfl, rfl⟩ | ⟨g, cap, cur, rfl, _⟩
  · have hy : ys = [] := List.eq_nil_of_length_eq_zero (by simpa using hsrc.1)
    subst hy
    have hrun := run_append_owned_none (P := P) (w := w) base t o.type e i size ht hi v n xs hown
    unfold Oper.wp
    simp [execOp, ho, resolve, invoke, builtin, hs, hx, hrun, Result.andThen]
    exact h _ _ (by simpa using hown) ⟨rfl, rfl, rfl, Nat.le_refl _, fun _ _ _ => rfl⟩
  · exact wp_append_own w s x t ho base e i z size bytes ht hi hz hsize hby hzs hsz v n xs hs hown ⟨g, 0, none⟩ m cap ys hx hsrc.1 (hsrc.cells rfl) h1 h63 hbytes hbase (fun v' w' p q _ => h v' w' p q)
theorem wpList_append_row {ops : Array Oper} {rest : List Oper} {o : Oper} {a : Act} {Q : Exit → Act → World → Prop} (hgd : o.guard = none) (s x : Operand) (t : TypeId)
    (ho : o.op = .call { callee := .builtin .append, args := #[s, x], argTypes := #[t, t] })
    (base : Nat) (e : TypeId) (i : TypeInfo) (z : Value) (size bytes : Nat) (ht : P.underlying t = some (.slice e)) (hi : P.info? e = some i) (hz : i.zero = some z)
    (hsize : i.size = size) (hby : i.bytes = bytes) (hzs : z.cells.size = size) (hsz : 0 < size)
    (v : Value) (n : Nat) (xs : List Value) (hs : a.eval s = v) (hown : w.ownsRow base e size v n xs) (u : Value) (m : Nat) (ys : List Value) (hx : a.eval x = u) (hsrc : w.ownsRow 0 e size u m ys) (h1 : ∀ y ∈ ys, y.oneCell' = true)
    (h63 : n + m ≤ maxLen) (hbytes : (n + m) * bytes ≤ 140737488355328) (hbase : base ≤ w.heap.size)
    (h : ∀ v' w', w'.ownsRow base e size v' (n + m) (xs ++ ys) → w.grownBy w' v.ownBlock → wpList P ops Q rest (a.put o.dst v') w') : wpList P ops Q (o :: rest) a w :=
  wpList_plain hgd fun _ hK => wp_append_row s x t ho base e i z size bytes ht hi hz hsize hby hzs hsz v n xs hs hown u m ys hx hsrc h1 h63 hbytes hbase fun v' w' p q => hK _ _ (h v' w' p q)
theorem step_append_row {ops : Array Oper} {o : Oper} {a : Act} {K : Act → World → Prop} {Q : Exit → Act → World → Prop} {E : Prop} (hgd : o.guard = none) (s x : Operand) (t : TypeId)
    (ho : o.op = .call { callee := .builtin .append, args := #[s, x], argTypes := #[t, t] })
    (base : Nat) (e : TypeId) (i : TypeInfo) (z : Value) (size bytes : Nat) (ht : P.underlying t = some (.slice e)) (hi : P.info? e = some i) (hz : i.zero = some z)
    (hsize : i.size = size) (hby : i.bytes = bytes) (hzs : z.cells.size = size) (hsz : 0 < size)
    (v : Value) (n : Nat) (xs : List Value) (hs : a.eval s = v) (hown : w.ownsRow base e size v n xs) (u : Value) (m : Nat) (ys : List Value) (hx : a.eval x = u) (hsrc : w.ownsRow 0 e size u m ys) (h1 : ∀ y ∈ ys, y.oneCell' = true)
    (h63 : n + m ≤ maxLen) (hbytes : (n + m) * bytes ≤ 140737488355328) (hbase : base ≤ w.heap.size)
    (h : ∀ v' w', w'.ownsRow base e size v' (n + m) (xs ++ ys) → w.grownBy w' v.ownBlock → K (a.put o.dst v') w') :
    if Region.wanted o (yielded ops a.tmps) = true then Oper.wp P o a w K Q else E := by
  have hw : Region.wanted o (yielded ops a.tmps) = true := by simp [Region.wanted, hgd]
  rw [if_pos hw]
  exact wp_append_row s x t ho base e i z size bytes ht hi hz hsize hby hzs hsz v n xs hs hown u m ys hx hsrc h1 h63 hbytes hbase h
end
end Go.Proofs.YtcjbnjoomgagjaaGreatDoor.B
namespace Go.Proofs.YtcjbnjoomgagjaaGreatDoor.G
open Go.RowKit
def rowsC {α : Type} (f : α → List Value) : List α → List Value
  | [] => []
  | x :: r => f x ++ rowsC f r
section
variable {α : Type} {f : α → List Value} {k : Nat}
theorem rowsC_len (hk : ∀ x, (f x).length = k) : ∀ l, (rowsC f l).length = l.length * k
  | [] => by simp [rowsC]
  | x :: r => by rw [rowsC, List.length_append, hk, rowsC_len hk r, List.length_cons, Nat.add_mul]; omega
theorem rowsC_app : ∀ a b, rowsC f (a ++ b) = rowsC f a ++ rowsC f b
  | [], b => rfl
  | x :: r, b => by rw [List.cons_append, rowsC, rowsC, rowsC_app r b, List.append_assoc]
theorem rowsC_one (x : α) : rowsC f [x] = f x := by rw [rowsC, rowsC, List.append_nil]
theorem rowsC_get (hk : ∀ x, (f x).length = k) : ∀ (l : List α) (i j : Nat) (x : α), l[i]? = some x → j < k → (rowsC f l)[i * k + j]? = (f x)[j]?
  | [], i, j, x, h, _ => by simp at h
  | y :: r, 0, j, x, h, hj => by
    obtain rfl : y = x := by simpa using h
    rw [rowsC, Nat.zero_mul, Nat.zero_add, List.getElem?_append_left (by rw [hk]; exact hj)]
  | y :: r, i + 1, j, x, h, hj => by
    have h' : r[i]? = some x := by simpa using h
    rw [rowsC, List.getElem?_append_right (by rw [hk, Nat.add_mul]; omega), hk, show (i + 1) * k + j - k = i * k + j by rw [Nat.add_mul]; omega]
    exact rowsC_get hk r i j x h' hj
theorem rowsC_take (hk : ∀ x, (f x).length = k) : ∀ (l : List α) (n : Nat), (rowsC f l).take (n * k) = rowsC f (l.take n)
  | l, 0 => by rw [Nat.zero_mul, List.take_zero, List.take_zero]; rfl
  | [], n + 1 => by simp [rowsC]
  | y :: r, n + 1 => by
    rw [rowsC, List.take_succ_cons, rowsC, List.take_append, hk, show (n + 1) * k - k = n * k by rw [Nat.add_mul]; omega, rowsC_take hk r n, List.take_of_length_le (by rw [hk, Nat.add_mul]; omega)]
theorem rowsC_set (hk : ∀ x, (f x).length = k) : ∀ (l : List α) (i j : Nat) (x x' : α) (u : Value), l[i]? = some x → j < k → f x' = (f x).set j u → (rowsC f l).set (i * k + j) u = rowsC f (l.set i x')
  | [], i, j, x, x', u, h, _, _ => by simp at h
  | y :: r, 0, j, x, x', u, h, hj, hs => by
    obtain rfl : y = x := by simpa using h
    rw [rowsC, Nat.zero_mul, Nat.zero_add, List.set_append_left _ _ (by rw [hk]; exact hj), ← hs]
    rfl
  | y :: r, i + 1, j, x, x', u, h, hj, hs => by
    have h' : r[i]? = some x := by simpa using h
    rw [rowsC, List.set_append_right _ _ (by rw [hk, Nat.add_mul]; omega), hk, show (i + 1) * k + j - k = i * k + j by rw [Nat.add_mul]; omega, rowsC_set hk r i j x x' u h' hj hs]
    rfl
theorem rowsC_mem {P : Value → Prop} : ∀ (l : List α), (∀ x ∈ l, ∀ u ∈ f x, P u) → ∀ u ∈ rowsC f l, P u
  | [], _, u, hu => by cases hu
  | x :: r, h, u, hu => by
    rcases List.mem_append.1 hu with hu | hu
    · exact h x List.mem_cons_self u hu
    · exact rowsC_mem r (fun y hy => h y (List.mem_cons_of_mem _ hy)) u hu
end
def visC (v : Vis) : List Value := [.int .i64 v.id, .int .i64 v.depth, .string v.name, .string v.base, .bool v.last, .bool v.over, .int .i64 v.err]
def visV (v : Vis) : Value := .agg #[.int .i64 v.id, .int .i64 v.depth, .string v.name, .string v.base, .bool v.last, .bool v.over, .int .i64 v.err]
theorem visC_len (v : Vis) : (visC v).length = 7 := rfl
theorem visC_one (v : Vis) : ∀ u ∈ visC v, u.oneCell' = true := by
  intro u hu
  simp only [visC, List.mem_cons, List.not_mem_nil, or_false] at hu
  rcases hu with rfl | rfl | rfl | rfl | rfl | rfl | rfl <;> rfl
def frC (x : Fr) : List Value := [.int .i64 x.v.id, .int .i64 x.v.depth, .string x.v.name, .string x.v.base, .bool x.v.last, .bool x.v.over, .int .i64 x.v.err, x.lv]
theorem frC_len (x : Fr) : (frC x).length = 8 := rfl
theorem visCs_one (l : List Vis) : ∀ u ∈ rowsC visC l, u.oneCell' = true := rowsC_mem l fun x _ => visC_one x
def enC' (e : ByteArray × Int) : List Value := [.string e.1, .int .i64 e.2]
theorem enC'_len (e : ByteArray × Int) : (enC' e).length = 2 := rfl
theorem enCs_one (l : List (ByteArray × Int)) : ∀ u ∈ rowsC enC' l, u.oneCell' = true := rowsC_mem l fun x _ u hu => by
  simp only [enC', List.mem_cons, List.not_mem_nil, or_false] at hu
  rcases hu with rfl | rfl <;> rfl
def EntsAt (B0 : Nat) (w : World) (v : Value) (l : List (ByteArray × Int)) : Prop :=
  ∃ a cap, v = .slice a l.length cap ∧ l.length ≤ cap ∧ cap ≤ maxLen ∧ (l ≠ [] → ∃ g o cur, a = some ⟨g, o, none⟩ ∧ B0 ≤ g ∧ w.heap[g]? = some (.cells cur 81 (0, 0)) ∧ ∀ j u, (rowsC enC' l)[j]? = some u → cur[o + j]? = some u)
theorem EntsAt.of_owns {B0 : Nat} {w : World} {v : Value} {l : List (ByteArray × Int)} (h : w.ownsRow B0 81 2 v l.length (rowsC enC' l)) : EntsAt B0 w v l := by
  rcases h.2 with ⟨rfl, h0⟩ | ⟨g, cap, cur, rfl, hb, hg, hnc, hcm, hcs, ht⟩
  · exact ⟨none, 0, by rw [h0], by omega, by decide, fun q => absurd (List.eq_nil_of_length_eq_zero h0) q⟩
  · refine ⟨_, cap, rfl, hnc, hcm, fun _ => ⟨g, 0, cur, rfl, hb, hg, fun j u hu => ?_⟩⟩
    rw [← ht, List.getElem?_take] at hu
    split at hu
    · rw [Nat.zero_add]; simpa using hu
    · cases hu
theorem EntsAt.at_ {B0 : Nat} {w w' : World} {v : Value} {l : List (ByteArray × Int)} (h : EntsAt B0 w v l) (hk : ∀ g cur, B0 ≤ g → w.heap[g]? = some (.cells cur 81 (0, 0)) → w'.heap[g]? = some (.cells cur 81 (0, 0))) : EntsAt B0 w' v l := by
  obtain ⟨a, cap, e, h1, h2, h3⟩ := h
  refine ⟨a, cap, e, h1, h2, fun q => ?_⟩
  obtain ⟨g, o, cur, e1, e2, e3, e4⟩ := h3 q
  exact ⟨g, o, cur, e1, e2, hk g cur e2 e3, e4⟩
theorem EntsAt.keep {B0 : Nat} {w w' : World} {v : Value} {l : List (ByteArray × Int)} (h : EntsAt B0 w v l) (hb : Below w.heap.size w w') : EntsAt B0 w' v l :=
  h.at_ fun g cur _ hg => (hb.block g (B.heap_lt hg)).trans hg
theorem EntsAt.first {B0 : Nat} {w : World} {v : Value} {e : ByteArray × Int} {l : List (ByteArray × Int)} (h : EntsAt B0 w v (e :: l)) :
    ∃ g o cap, v = .slice (some ⟨g, o, none⟩) (l.length + 1) cap ∧ B0 ≤ g ∧ l.length + 1 ≤ cap ∧ cap ≤ maxLen ∧ w.cell? ⟨g, o, none⟩ = some (.string e.1) ∧ w.cell? ⟨g, o + 1, none⟩ = some (.int .i64 e.2) ∧ EntsAt B0 w (.slice (if cap = 1 then some ⟨g, o, none⟩ else some ⟨g, o + 2, none⟩) l.length (cap - 1)) l := by
  obtain ⟨a, cap, rfl, h1, h2, h3⟩ := h
  rw [List.length_cons] at h1
  obtain ⟨g, o, cur, rfl, e2, e3, e4⟩ := h3 (by simp)
  refine ⟨g, o, cap, by rw [List.length_cons], e2, h1, h2, ?_, ?_, ?_⟩
  · rw [cell_of_row _ _ _ _ _ _ e3]; exact e4 0 _ rfl
  · rw [cell_of_row _ _ _ _ _ _ e3]; exact e4 1 _ rfl
  · refine ⟨_, cap - 1, rfl, by omega, by omega, fun q => ?_⟩
    have hl : 0 < l.length := List.length_pos_iff.2 q
    rw [if_neg (show cap ≠ 1 by omega)]
    refine ⟨g, o + 2, cur, rfl, e2, e3, fun j u hu => ?_⟩
    rw [show o + 2 + j = o + (j + 1 + 1) by omega]
    refine e4 _ _ ?_
    rw [rowsC]
    exact hu
structure Wk (W0 : World) (R nb : Nat) (nc : Array Value) (b p : Nat) (u g most : Int) (all : Bool) (S : List Fr) (D : List Vis) (sv vv : Value) (w : World) : Prop where
  head : w.heap[b]? = some (.cells #[.pointer (some ⟨p, 0, none⟩), .int .i64 u, .int .i64 g, .int .i64 most, .bool all, sv, vv] 70 (0, 0))
  stk : w.ownsRow R 97 8 sv S.length (rowsC frC S.reverse)
  vis : w.ownsRow R 42 7 vv D.length (rowsC visC D)
  ents : ∀ x ∈ S, EntsAt W0.heap.size w x.lv x.l
  low : Below W0.heap.size W0 w
  ge : W0.heap.size ≤ b
  now : w.heap[nb]? = some (.cells nc 42 (0, 0))
  lt : nb < R
  rge : W0.heap.size ≤ R
  rle : R ≤ w.heap.size
section
variable {W0 : World} {R nb : Nat} {nc : Array Value} {b p : Nat} {u g most : Int} {all : Bool} {S : List Fr} {D : List Vis} {sv vv : Value} {w w' w1 : World}
theorem Wk.keep (h : Wk W0 R nb nc b p u g most all S D sv vv w) (hb : Below w.heap.size w w') : Wk W0 R nb nc b p u g most all S D sv vv w' :=
  ⟨(hb.block _ (B.heap_lt h.head)).trans h.head, B.owns_to h.stk hb, B.owns_to h.vis hb, fun x hx => (h.ents x hx).keep hb, h.low.trans (hb.mono h.low.size), h.ge, (hb.block _ (B.heap_lt h.now)).trans h.now, h.lt, h.rge, Nat.le_trans h.rle hb.size⟩
theorem Wk.cell (h : Wk W0 R nb nc b p u g most all S D sv vv w) {j : Nat} {v : Value} (hj : (#[.pointer (some ⟨p, 0, none⟩), .int .i64 u, .int .i64 g, .int .i64 most, .bool all, sv, vv] : Array Value)[j]? = some v) : w.cell? ⟨b, j, none⟩ = some v := by
  rw [cell_of_row _ _ _ _ _ _ h.head]; exact hj
theorem Wk.free (h : Wk W0 R nb nc b p u g most all S D sv vv w) (j : Nat) : w.frozen? ⟨b, j, none⟩ = false := frozen_of_row _ _ _ _ _ h.head
theorem Wk.s_ne (h : Wk W0 R nb nc b p u g most all S D sv vv w) {k : Nat} (hk : sv.ownBlock = some k) : k ≠ b := by
  rintro rfl
  obtain ⟨cur, hc⟩ := B.owns_type h.stk hk
  rw [h.head] at hc
  simp at hc
theorem Wk.v_ne (h : Wk W0 R nb nc b p u g most all S D sv vv w) {k : Nat} (hk : vv.ownBlock = some k) : k ≠ b := by
  rintro rfl
  obtain ⟨cur, hc⟩ := B.owns_type h.vis hk
  rw [h.head] at hc
  simp at hc
theorem Wk.sv_ne (h : Wk W0 R nb nc b p u g most all S D sv vv w) {k j : Nat} (hk : sv.ownBlock = some k) (hj : vv.ownBlock = some j) : k ≠ j := by
  rintro rfl
  obtain ⟨cur, hc⟩ := B.owns_type h.stk hk
  obtain ⟨cur', hc'⟩ := B.owns_type h.vis hj
  rw [hc'] at hc
  simp at hc
theorem Wk.n_ne (h : Wk W0 R nb nc b p u g most all S D sv vv w) : nb ≠ b := by
  rintro rfl
  have := h.now
  rw [h.head] at this
  simp at this
theorem Wk.visit (h : Wk W0 R nb nc b p u g most all S D sv vv w) {E : List Vis} {v1 : Value} (ho : w1.ownsRow R 42 7 v1 (D.length + E.length) (rowsC visC D ++ rowsC visC E)) (hg : w.grownBy w1 vv.ownBlock) :
    Wk W0 R nb nc b p u g most all S (D ++ E) sv v1 (w1.setCell ⟨b, 6, none⟩ v1) := by
  have hbl := B.heap_lt h.head
  have hh : w1.heap[b]? = some (.cells #[.pointer (some ⟨p, 0, none⟩), .int .i64 u, .int .i64 g, .int .i64 most, .bool all, sv, vv] 70 (0, 0)) := (hg.block b hbl (fun e => h.v_ne e.symm rfl)).trans h.head
  have hne : ∀ k, v1.ownBlock = some k → k ≠ b := fun k hk => by
    rintro rfl
    obtain ⟨cur, hc⟩ := B.owns_type ho hk
    rw [hh] at hc
    simp at hc
  refine ⟨heap_setCell_same _ _ _ _ _ _ hh, ?_, ?_, fun x hx => (h.ents x hx).at_ fun k cur hB hk => ?_, ?_, h.ge, ?_, h.lt, h.rge, ?_⟩
  · refine B.owns_at h.stk fun k hk => ?_
    rw [heap_setCell_other _ _ _ _ (h.s_ne hk)]
    exact hg.block k (h.stk.lt k hk).2 (fun e => h.sv_ne hk e.symm rfl)
  · rw [List.length_append, rowsC_app]
    exact B.owns_at ho fun k hk => heap_setCell_other _ _ _ _ (hne k hk)
  · have h1 : k ≠ b := by rintro rfl; rw [h.head] at hk; simp at hk
    have h2 : some k ≠ vv.ownBlock := fun e => by
      obtain ⟨cur', hc⟩ := B.owns_type h.vis e.symm
      rw [hk] at hc
      simp at hc
    rw [heap_setCell_other _ _ _ _ h1]
    exact (hg.block k (B.heap_lt hk) h2).trans hk
  · exact (h.low.grown hg h.low.size (fun k e => Nat.le_trans h.rge (h.vis.lt k e).1)).setCell h.ge _
  · rw [heap_setCell_other _ _ _ _ h.n_ne]
    exact (hg.block _ (B.heap_lt h.now) (fun e => by have := (h.vis.lt _ e.symm).1; have := h.lt; omega)).trans h.now
  · have e : (w1.setCell ⟨b, 6, none⟩ v1).heap.size = w1.heap.size := by simp [World.setCell]
    rw [e]; exact Nat.le_trans h.rle hg.size
theorem Wk.push (h : Wk W0 R nb nc b p u g most all S D sv vv w) {x : Fr} {v1 : Value} (ho : w1.ownsRow R 97 8 v1 (S.length + 1) (rowsC frC S.reverse ++ frC x)) (hg : w.grownBy w1 sv.ownBlock) (hx : EntsAt W0.heap.size w x.lv x.l) :
    Wk W0 R nb nc b p u g most all (x :: S) D v1 vv (w1.setCell ⟨b, 5, none⟩ v1) := by
  have hbl := B.heap_lt h.head
  have hh : w1.heap[b]? = some (.cells #[.pointer (some ⟨p, 0, none⟩), .int .i64 u, .int .i64 g, .int .i64 most, .bool all, sv, vv] 70 (0, 0)) := (hg.block b hbl (fun e => h.s_ne e.symm rfl)).trans h.head
  have hne : ∀ k, v1.ownBlock = some k → k ≠ b := fun k hk => by
    rintro rfl
    obtain ⟨cur, hc⟩ := B.owns_type ho hk
    rw [hh] at hc
    simp at hc
  have hen : ∀ (v : Value) (l : List (ByteArray × Int)), EntsAt W0.heap.size w v l → EntsAt W0.heap.size (w1.setCell ⟨b, 5, none⟩ v1) v l := fun v l hv => hv.at_ fun k cur hB hk => by
    have h1 : k ≠ b := by rintro rfl; rw [h.head] at hk; simp at hk
    have h2 : some k ≠ sv.ownBlock := fun e => by
      obtain ⟨cur', hc⟩ := B.owns_type h.stk e.symm
      rw [hk] at hc
      simp at hc
    rw [heap_setCell_other _ _ _ _ h1]
    exact (hg.block k (B.heap_lt hk) h2).trans hk
  refine ⟨heap_setCell_same _ _ _ _ _ _ hh, ?_, ?_, fun y hy => ?_, ?_, h.ge, ?_, h.lt, h.rge, ?_⟩
  · rw [List.length_cons, List.reverse_cons, rowsC_app, rowsC_one]
    exact B.owns_at ho fun k hk => heap_setCell_other _ _ _ _ (hne k hk)
  · refine B.owns_at h.vis fun k hk => ?_
    rw [heap_setCell_other _ _ _ _ (h.v_ne hk)]
    exact hg.block k (h.vis.lt k hk).2 (fun e => h.sv_ne e.symm hk rfl)
  · rcases List.mem_cons.1 hy with rfl | hy
    · exact hen _ _ hx
    · exact hen _ _ (h.ents y hy)
  · exact (h.low.grown hg h.low.size (fun k e => Nat.le_trans h.rge (h.stk.lt k e).1)).setCell h.ge _
  · rw [heap_setCell_other _ _ _ _ h.n_ne]
    exact (hg.block _ (B.heap_lt h.now) (fun e => by have := (h.stk.lt _ e.symm).1; have := h.lt; omega)).trans h.now
  · have e : (w1.setCell ⟨b, 5, none⟩ v1).heap.size = w1.heap.size := by simp [World.setCell]
    rw [e]; exact Nat.le_trans h.rle hg.size
theorem Wk.stack (h : Wk W0 R nb nc b p u g most all S D sv vv w) (hS : S ≠ []) : ∃ k cap, sv = .slice (some ⟨k, 0, none⟩) S.length cap ∧ S.length ≤ cap ∧ cap ≤ maxLen ∧ k < w.heap.size := by
  obtain ⟨k, cap, e, h1, h2⟩ := B.owns_some h.stk (List.length_pos_iff.2 hS)
  exact ⟨k, cap, e, h1, h2, (h.stk.lt k (by rw [e]; rfl)).2⟩
theorem top_at {x : Fr} {r : List Fr} : (x :: r).reverse[r.length]? = some x := by
  rw [List.reverse_cons, List.getElem?_append_right (by simp)]
  simp
theorem Wk.top {x : Fr} {r : List Fr} {k cap : Nat} (h : Wk W0 R nb nc b p u g most all (x :: r) D (.slice (some ⟨k, 0, none⟩) (r.length + 1) cap) vv w) {j : Nat} {v : Value} (hv : (frC x)[j]? = some v) : w.cell? ⟨k, r.length * 8 + j, none⟩ = some v := by
  have hj : j < 8 := (List.getElem?_eq_some_iff.1 hv).1
  refine B.owns_cell (n := r.length + 1) (cap := cap) h.stk ?_
  rw [rowsC_get frC_len _ _ _ _ top_at hj]
  exact hv
theorem Wk.top_free {x : Fr} {r : List Fr} {k cap : Nat} (h : Wk W0 R nb nc b p u g most all (x :: r) D (.slice (some ⟨k, 0, none⟩) (r.length + 1) cap) vv w) (j : Nat) : w.frozen? ⟨k, j, none⟩ = false := B.owns_frozen (n := r.length + 1) (cap := cap) h.stk j
theorem Wk.pop {x : Fr} {r : List Fr} {k cap : Nat} (h : Wk W0 R nb nc b p u g most all (x :: r) D (.slice (some ⟨k, 0, none⟩) (r.length + 1) cap) vv w) :
    Wk W0 R nb nc b p u g most all r D (.slice (some ⟨k, 0, none⟩) r.length cap) vv (w.setCell ⟨b, 5, none⟩ (.slice (some ⟨k, 0, none⟩) r.length cap)) := by
  have hkb : k ≠ b := h.s_ne rfl
  refine ⟨heap_setCell_same _ _ _ _ _ _ h.head, ?_, ?_, fun y hy => (h.ents y (List.mem_cons_of_mem _ hy)).at_ fun j cur hB hj => ?_, h.low.setCell h.ge _, h.ge, ?_, h.lt, h.rge, by simpa [World.setCell] using h.rle⟩
  · have ho := h.stk
    rcases ho.2 with ⟨q, _⟩ | ⟨k', cap', cur, hv, hB, hg, hnc, hcm, hcs, ht⟩
    · cases q
    · simp only [Value.slice.injEq, Option.some.injEq, Addr.mk.injEq] at hv
      obtain ⟨⟨rfl, _, _⟩, _, rfl⟩ := hv
      rw [List.length_cons] at hnc ht
      refine ⟨by rw [rowsC_len frC_len, List.length_reverse], .inr ⟨k, cap, cur, rfl, hB, ?_, by omega, hcm, hcs, ?_⟩⟩
      · rw [heap_setCell_other _ _ _ _ hkb]; exact hg
      · have e2 := congrArg (List.take (r.length * 8)) ht
        rw [List.take_take, rowsC_take frC_len, List.reverse_cons, List.take_left' (by rw [List.length_reverse]), Nat.min_eq_left (by omega)] at e2
        exact e2
  · exact B.owns_at h.vis fun j hj => heap_setCell_other _ _ _ _ (h.v_ne hj)
  · rw [heap_setCell_other _ _ _ _ (by rintro rfl; rw [h.head] at hj; simp at hj)]; exact hj
  · rw [heap_setCell_other _ _ _ _ h.n_ne]; exact h.now
theorem Wk.less {v : Vis} {a c : Value} {l l' : List (ByteArray × Int)} {r : List Fr} {k cap : Nat} (h : Wk W0 R nb nc b p u g most all (⟨v, a, l⟩ :: r) D (.slice (some ⟨k, 0, none⟩) (r.length + 1) cap) vv w) (hc : EntsAt W0.heap.size w c l') :
    Wk W0 R nb nc b p u g most all (⟨v, c, l'⟩ :: r) D (.slice (some ⟨k, 0, none⟩) (r.length + 1) cap) vv (w.setCell ⟨k, r.length * 8 + 7, none⟩ c) := by
  have hkb : k ≠ b := h.s_ne rfl
  have hkR : R ≤ k := (h.stk.lt k rfl).1
  have hkB : W0.heap.size ≤ k := Nat.le_trans h.rge hkR
  have hen : ∀ (q : Value) (m : List (ByteArray × Int)), EntsAt W0.heap.size w q m → EntsAt W0.heap.size (w.setCell ⟨k, r.length * 8 + 7, none⟩ c) q m := fun q m hq => hq.at_ fun j cur hB hj => by
    have h2 : j ≠ k := fun e => by
      subst e
      obtain ⟨cur', hc'⟩ := B.owns_type h.stk rfl
      rw [hj] at hc'
      simp at hc'
    rw [heap_setCell_other _ _ _ _ h2]; exact hj
  refine ⟨?_, ?_, ?_, fun y hy => ?_, h.low.setCell hkB _, h.ge, by rw [heap_setCell_other _ _ _ _ (show nb ≠ k from by have := h.lt; omega)]; exact h.now, h.lt, h.rge, by simpa [World.setCell] using h.rle⟩
  · rw [heap_setCell_other _ _ _ _ (fun e => hkb e.symm)]; exact h.head
  · have ho := h.stk
    rw [List.length_cons] at ho ⊢
    have := B.owns_setCell ho (j := r.length * 8 + 7) (by rw [rowsC_len frC_len, List.length_reverse, List.length_cons]; omega) c
    rw [rowsC_set frC_len (Fr.mk v a l :: r).reverse r.length 7 ⟨v, a, l⟩ ⟨v, c, l'⟩ c top_at (by omega) rfl] at this
    have e : (Fr.mk v a l :: r).reverse.set r.length ⟨v, c, l'⟩ = (Fr.mk v c l' :: r).reverse := by
      rw [List.reverse_cons, List.reverse_cons, List.set_append_right _ _ (by simp)]
      simp
    rwa [e] at this
  · exact B.owns_at h.vis fun j hj => heap_setCell_other _ _ _ _ (fun e => h.sv_ne (k := k) rfl hj e.symm)
  · rcases List.mem_cons.1 hy with rfl | hy
    · exact hen _ _ hc
    · exact hen _ _ (h.ents y (List.mem_cons_of_mem _ hy))
end
end Go.Proofs.YtcjbnjoomgagjaaGreatDoor.G
namespace Go.Proofs.YtcjbnjoomgagjaaGreatDoor.G
open Go.RowKit
theorem infoVis : (Tryz.prog.info? 42).map (fun i => (i.zero, i.size, i.bytes)) = some (some (.agg #[.int .i64 0, .int .i64 0, .string ⟨#[]⟩, .string ⟨#[]⟩, .bool false, .bool false, .int .i64 0]), 7, 64) := by kernel_rfl
theorem sizeVis : (Tryz.prog.info? 42).map (·.size) = some 7 := by kernel_rfl
theorem sizeEnt : (Tryz.prog.info? 81).map (·.size) = some 2 := by kernel_rfl
theorem drewn_below {B n : Nat} {w w' : World} (hb : Below B w w') : Below B w (w'.drewN n) := ⟨hb.os, hb.tape, hb.output, hb.size, hb.block⟩
section
variable {W0 : World} {R nb : Nat} {nc : Array Value} {b p : Nat} {u g most : Int} {all : Bool} {D : List Vis} {vv : Value} {w : World}
set_option maxRecDepth 100000 in
theorem top_any {x : Fr} {r : List Fr} {k cap : Nat} (h : Wk W0 R nb nc b p u g most all (x :: r) D (.slice (some ⟨k, 0, none⟩) (r.length + 1) cap) vv w) (hr : r.length ≤ 1000) :
    Calls Tryz.prog 48 #[.pointer (some ⟨b, 0, none⟩)] w fun e w' => e = .returned (.pointer (some ⟨k, r.length * 8, none⟩)) ∧ Below w.heap.size w w' := by
  have c5 := h.cell (j := 5) rfl
  have hw : IntKind.i64.wrap (((r.length + 1 : Nat) : Int) - 1) = (r.length : Int) := by rw [IntWalk.i64_in _ (by omega)]; omega
  have hl : r.length < r.length + 1 := by omega
  clear h
  go_enter Tryz.func48, Tryz.ntmps48
  go_wp2_with fail
  go_quiet (fail)
  go_wp2_with fail
  go_ret
  exact ⟨rfl, drewn_below (Below.refl _ _)⟩
set_option maxRecDepth 100000 in
theorem done_any {x : Fr} {r : List Fr} {k cap : Nat} (h : Wk W0 R nb nc b p u g most all (x :: r) D (.slice (some ⟨k, 0, none⟩) (r.length + 1) cap) vv w) (hr : r.length ≤ 1000) :
    Calls Tryz.prog 27 #[.pointer (some ⟨b, 0, none⟩)] w fun e w' => e = .returned (.bool (decide (x.l = []))) ∧ Below w.heap.size w w' := by
  obtain ⟨a, c, hv, _⟩ := h.ents x List.mem_cons_self
  have HT := Lib.hid (top_any h hr)
  have HC := Lib.hid (show ∀ W, Below w.heap.size w W → W.cell? ⟨k, r.length * 8 + 7, none⟩ = some (.slice a x.l.length c) from fun W hb => by rw [← hv]; exact (h.keep hb).top rfl)
  have HL := Lib.hid (show ((x.l.length : Int) == 0) = decide (x.l = []) from by
    cases x.l with
    | nil => rfl
    | cons y l => rw [decide_eq_false (by simp), beq_eq_false_iff_ne, List.length_cons]; omega)
  clear h hv
  go_enter Tryz.func27, Tryz.ntmps27
  go_wp2_with fail
  refine HT.out.mono ?_
  rintro e w2 ⟨rfl, hb⟩
  have c7 := HC.out _ hb
  have HB := Lib.hid hb
  clear hb
  go_wp2_with fail
  go_ret
  exact ⟨by rw [HL.out]; rfl, HB.out⟩
set_option maxRecDepth 100000 in
set_option maxHeartbeats 4000000 in
theorem close_any {x : Fr} {r : List Fr} {k cap : Nat} (h : Wk W0 R nb nc b p u g most all (x :: r) D (.slice (some ⟨k, 0, none⟩) (r.length + 1) cap) vv w) (hr : r.length ≤ 1000) (hD : D.length ≤ 1000000) :
    Calls Tryz.prog 28 #[.pointer (some ⟨b, 0, none⟩)] w fun e w' => e = .returned (.tuple #[]) ∧ ∃ sv' vv', Wk W0 R nb nc b p u g most all r (D ++ [overV x.v]) sv' vv' w' := by
  obtain ⟨i0, hi0, hz0, hz1, hz2⟩ := info_parts infoVis
  obtain ⟨_, _, _, hcap, _, _⟩ := h.stack (by simp)
  have hcp : r.length + 1 ≤ cap := by
    rcases h.stk.2 with ⟨q, _⟩ | ⟨k', cap', cur, hv, hB, hg, hnc, _⟩
    · cases q
    · simp only [Value.slice.injEq, Option.some.injEq, Addr.mk.injEq] at hv
      obtain ⟨_, _, rfl⟩ := hv
      exact hnc
  have HT := Lib.hid (top_any h hr)
  have HH := Lib.hid h
  clear h hcap
  go_enter Tryz.func28, Tryz.ntmps28
  go_wp2_with fail
  refine HT.out.mono ?_
  rintro e w2 ⟨rfl, hb⟩
  have HW2 := Lib.hid (HH.out.keep hb)
  clear hb HT HH
  have HR := Lib.hid (show w2.rangeAt k (r.length * 8) (visC x.v) from fun j v hj => by
    refine HW2.out.top (j := j) ?_
    have : j < 7 := (List.getElem?_eq_some_iff.1 hj).1
    show (visC x.v ++ [x.lv])[j]? = some v
    rw [List.getElem?_append_left this]
    exact hj)
  go_upto_region 1 with (first
    | (refine wpList_load_mid rfl 42 (.tmp 6) rfl k (r.length * 8) rfl (visC x.v) _ HR.out Tryz.underlying42 rfl sizeVis ?_)
    | (refine wpList_store_row rfl 42 (.tmp 2) (.tmp 7) rfl w2.heap.size (visC x.v).toArray rfl rfl _ _ (heap_alloc_new _ _) sizeVis rfl (all_oneCell_toArray (visC_one x.v)) ?_; rw [World.setRow_alloc_new]))
  have HX := Lib.hid (heap_alloc_new w2 (.cells (visC x.v).toArray 42))
  have HW2a := Lib.hid (HW2.out.keep ((Below.refl _ _).alloc (Nat.le_refl _) (.cells (visC x.v).toArray 42)))
  generalize w2.alloc (.cells (visC x.v).toArray 42) = wa at HX HW2a ⊢
  obtain ⟨B1, hB1⟩ : ∃ B1, w2.heap.size = B1 := ⟨_, rfl⟩
  have HGe := Lib.hid (show W0.heap.size ≤ B1 ∧ nb ≠ B1 from by rw [← hB1]; exact ⟨HW2.out.low.size, fun e => by have := HW2.out.lt; have := HW2.out.rle; omega⟩)
  have HNe0 := Lib.hid (show B1 ≠ b ∧ (∀ j, vv.ownBlock = some j → j ≠ B1) ∧ k ≠ B1 from by
    rw [← hB1]
    refine ⟨fun e => ?_, fun j hj e => ?_, fun e => ?_⟩
    · have := B.heap_lt HW2.out.head; omega
    · have := (HW2.out.vis.lt j hj).2; omega
    · have := (HW2.out.stk.lt k rfl).2; omega)
  rw [hB1] at HX ⊢
  clear HR HW2 hB1
  have c5 : wa.cell? ⟨B1, 5, none⟩ = some (.bool x.v.over) := by rw [cell_of_row _ _ _ _ _ _ HX.out]; rfl
  have f5 : wa.frozen? ⟨B1, 5, none⟩ = false := frozen_of_row _ _ _ _ _ HX.out
  go_upto_region 2 with fail
  have HX3 := Lib.hid (show (wa.setCell ⟨B1, 5, none⟩ (.bool true)).heap[B1]? = some (.cells (visC (overV x.v)).toArray 42 (0, 0)) from by rw [heap_setCell_same _ _ _ _ _ _ HX.out]; rfl)
  have HW3 := Lib.hid (show Wk W0 R nb nc b p u g most all (x :: r) D (.slice (some ⟨k, 0, none⟩) (r.length + 1) cap) vv (wa.setCell ⟨B1, 5, none⟩ (.bool true)) from by
    obtain ⟨h1, h2, h3, h4, h5, h6, h7, h8, h9, h10⟩ := HW2a.out
    refine ⟨?_, B.owns_at h2 fun j hj => heap_setCell_other _ _ _ _ ?_, B.owns_at h3 fun j hj => heap_setCell_other _ _ _ _ (HNe0.out.2.1 j hj), fun y hy => (h4 y hy).at_ fun j cur _ hj => ?_, h5.setCell HGe.out.1 _, h6, by rw [heap_setCell_other _ _ _ _ HGe.out.2]; exact h7, h8, h9, by simpa [World.setCell] using h10⟩
    · rw [heap_setCell_other _ _ _ _ (fun e => HNe0.out.1 e.symm)]; exact h1
    · obtain rfl : k = j := Option.some.inj hj
      exact HNe0.out.2.2
    · rw [heap_setCell_other _ _ _ _ (by rintro rfl; rw [HX.out] at hj; simp at hj)]; exact hj)
  generalize wa.setCell ⟨B1, 5, none⟩ (.bool true) = w3 at HX3 HW3 ⊢
  clear c5 f5 HX HW2a HGe
  have HCb := Lib.hid (show ∀ W : World, W.heap[b]? = w3.heap[b]? → W.cell? ⟨b, 5, none⟩ = some (.slice (some ⟨k, 0, none⟩) (r.length + 1) cap) ∧ W.cell? ⟨b, 6, none⟩ = some vv ∧ W.frozen? ⟨b, 6, none⟩ = false from fun W hW => by
    have q := hW.trans HW3.out.head
    refine ⟨?_, ?_, frozen_of_row _ _ _ _ _ q⟩ <;> (rw [cell_of_row _ _ _ _ _ _ q]; rfl))
  have HCx := Lib.hid (show ∀ W : World, W.heap[B1]? = w3.heap[B1]? → W.cell? ⟨B1, 0, none⟩ = some (.int .i64 (overV x.v).id) ∧ W.cell? ⟨B1, 1, none⟩ = some (.int .i64 (overV x.v).depth) ∧ W.cell? ⟨B1, 2, none⟩ = some (.string (overV x.v).name) ∧ W.cell? ⟨B1, 3, none⟩ = some (.string (overV x.v).base) ∧ W.cell? ⟨B1, 4, none⟩ = some (.bool (overV x.v).last) ∧ W.cell? ⟨B1, 5, none⟩ = some (.bool (overV x.v).over) ∧ W.cell? ⟨B1, 6, none⟩ = some (.int .i64 (overV x.v).err) from fun W hW => by
    have q := hW.trans HX3.out
    refine ⟨?_, ?_, ?_, ?_, ?_, ?_, ?_⟩ <;> (rw [cell_of_row _ _ _ _ _ _ q]; rfl))
  have HLb := Lib.hid (show b < w3.heap.size from B.heap_lt HW3.out.head)
  have HLx := Lib.hid (show B1 < w3.heap.size from B.heap_lt HX3.out)
  have HNb := Lib.hid (show some b ≠ vv.ownBlock from fun e => HW3.out.v_ne e.symm rfl)
  have HNx := Lib.hid (show some B1 ≠ vv.ownBlock from fun e => HNe0.out.2.1 _ e.symm rfl)
  have HLb2 := Lib.hid (show b < (w3.drew.alloc (.cells (visC (overV x.v)).toArray 42)).heap.size from by have := HLb.out; simp; omega)
  have HLx2 := Lib.hid (show B1 < (w3.drew.alloc (.cells (visC (overV x.v)).toArray 42)).heap.size from by have := HLx.out; simp; omega)
  have HW3a := Lib.hid (HW3.out.keep (show Below w3.heap.size w3 (w3.drew.alloc (.cells (visC (overV x.v)).toArray 42)) from ((Below.refl _ _).drew).alloc (Nat.le_refl _) _))
  have HO3 := Lib.hid HW3a.out.vis
  have HG3 := Lib.hid (show R ≤ (w3.drew.alloc (.cells (visC (overV x.v)).toArray 42)).heap.size from HW3a.out.rle)
  have HW3' := Lib.hid HW3.out
  clear HW3
  have HW3 := Lib.hid HW3a.out
  clear HW3a
-- TILL 1
  refine B.Till.region (z := 10) (S := fun w' => w'.heap[b]? = w3.heap[b]? ∧ w'.heap[B1]? = w3.heap[B1]?) (by kernel_rfl) ⟨rfl, rfl⟩ (fun hHeld => ?_)
  refine B.Till.take (i := 0) (oi := { dst := some 9, op := Op.move (Operand.tmp 0), type := 95, pos := "roam.go:133", after := #[], guard := none }) (v := .pointer (some ⟨b, 0, none⟩)) rfl (by kernel_rfl) (by kernel_rfl) (by kernel_rfl) (by kernel_rfl) (fun _ _ _ h => h) (Or.inl ⟨by rfl, fun w0 hS0 => ?_⟩) (by assumption) ?_
  · go_simp
  try simp only [Act.put, List.setIfInBounds_toArray, List.set_cons_zero, List.set_cons_succ]
  refine B.Till.take (i := 1) (oi := { dst := some 10, op := Op.move (Operand.tmp 0), type := 95, pos := "roam.go:133", after := #[], guard := none }) (v := .pointer (some ⟨b, 0, none⟩)) rfl (by kernel_rfl) (by kernel_rfl) (by kernel_rfl) (by kernel_rfl) (fun _ _ _ h => h) (Or.inl ⟨by rfl, fun w0 hS0 => ?_⟩) (by assumption) ?_
  · go_simp
  try simp only [Act.put, List.setIfInBounds_toArray, List.set_cons_zero, List.set_cons_succ]
  refine B.Till.take (i := 2) (oi := { dst := some 11, op := Op.nilCheck (Operand.tmp 10), type := 0, pos := "roam.go:133", after := #[{ on := 1, ground := Ground.data }], guard := none }) (v := .pointer (some ⟨b, 0, none⟩)) rfl (by kernel_rfl) (by kernel_rfl) (by kernel_rfl) (by kernel_rfl) (fun _ _ _ h => h) (Or.inl ⟨by rfl, fun w0 hS0 => ?_⟩) (by assumption) ?_
  · go_simp
  try simp only [Act.put, List.setIfInBounds_toArray, List.set_cons_zero, List.set_cons_succ]
  refine B.Till.take (i := 3) (oi := { dst := some 12, op := Op.fieldAddr 70 (Operand.tmp 11) 5, type := 0, pos := "roam.go:133", after := #[{ on := 2, ground := Ground.data }], guard := none }) (v := .pointer (some ⟨b, 6, none⟩)) rfl (by kernel_rfl) (by kernel_rfl) (by kernel_rfl) (by kernel_rfl) (fun _ _ _ h => h) (Or.inl ⟨by rfl, fun w0 hS0 => ?_⟩) (by assumption) ?_
  · go_simp
  try simp only [Act.put, List.setIfInBounds_toArray, List.set_cons_zero, List.set_cons_succ]
  refine B.Till.take (i := 4) (oi := { dst := some 13, op := Op.load 38 (Operand.tmp 12), type := 38, pos := "roam.go:133", after := #[{ on := 3, ground := Ground.data }], guard := none }) (v := vv) rfl (by kernel_rfl) (by kernel_rfl) (by kernel_rfl) (by kernel_rfl) (fun _ _ _ h => h) (Or.inl ⟨by rfl, fun w0 hS0 => ?_⟩) (by assumption) ?_
  · have c6 := (HCb.out _ hS0.1).2.1; go_simp
  try simp only [Act.put, List.setIfInBounds_toArray, List.set_cons_zero, List.set_cons_succ]
  refine B.Till.take (i := 5) (oi := { dst := some 14, op := Op.load 42 (Operand.tmp 2), type := 42, pos := "roam.go:133", after := #[], guard := none }) (v := .agg #[.int .i64 (overV x.v).id, .int .i64 (overV x.v).depth, .string (overV x.v).name, .string (overV x.v).base, .bool (overV x.v).last, .bool (overV x.v).over, .int .i64 (overV x.v).err]) rfl (by kernel_rfl) (by kernel_rfl) (by kernel_rfl) (by kernel_rfl) (fun _ _ _ h => h) (Or.inl ⟨by rfl, fun w0 hS0 => ?_⟩) (by assumption) ?_
  · obtain ⟨r0, r1, r2, r3, r4, r5, r6⟩ := HCx.out _ hS0.2; go_simp
  try simp only [Act.put, List.setIfInBounds_toArray, List.set_cons_zero, List.set_cons_succ]
  refine B.Till.next (i := 6) (o := { dst := some 15, op := Op.buildSlice 38 1 #[(0, Operand.tmp 14)], type := 38, pos := "roam.go:133", after := #[{ on := 5, ground := Ground.data }], guard := none }) (by kernel_rfl) rfl (fun K hK => ?_)
  go_simp
  refine hK.out _ _ (fun _ => ⟨(heap_alloc_old _ _ HLb.out).trans hHeld.1, (heap_alloc_old _ _ HLx.out).trans hHeld.2⟩) ?_
  clear hK K
  try simp only [Act.put, List.setIfInBounds_toArray, List.set_cons_zero, List.set_cons_succ]
  refine B.Till.next (i := 7) (o := { dst := some 16, op := Op.call { callee := Callee.builtin Builtin.append, args := #[Operand.tmp 13, Operand.tmp 15], argTypes := #[38, 38] }, type := 38, pos := "roam.go:133", after := #[{ on := 4, ground := Ground.data }, { on := 6, ground := Ground.data }], guard := none }) (by kernel_rfl) rfl (fun K hK => ?_)
  refine step_append_lies _ rfl (.tmp 13) (.tmp 15) 38 rfl R 42 i0 _ 7 64 Tryz.underlying38 hi0 hz0 hz1 hz2 rfl (by decide) vv D.length (rowsC visC D) (by simp [Act.eval]) HO3.out ⟨w3.heap.size, 0, none⟩ 1 1 (visC (overV x.v)) (by simp [Act.eval]) rfl (World.news_of_block (heap_alloc_new _ _)) (visC_one _) (by decide) (by unfold maxLen; omega) (by omega) HG3.out _ rfl ?_
  intro g1 cap1 w4 hown hgrow hat hlt1
  have hS4 : w4.heap[b]? = w3.heap[b]? ∧ w4.heap[B1]? = w3.heap[B1]? := ⟨(hgrow.block _ HLb2.out HNb.out).trans (heap_alloc_old _ _ HLb.out), (hgrow.block _ HLx2.out HNx.out).trans (heap_alloc_old _ _ HLx.out)⟩
  have HW4 := Lib.hid ((HW3.out).visit (E := [(overV x.v)]) hown hgrow)
  clear hown hgrow hat hlt1
  refine hK.out _ _ (fun _ => hS4) ?_
  clear hK K
  try simp only [Act.put, List.setIfInBounds_toArray, List.set_cons_zero, List.set_cons_succ]
  refine B.Till.next (i := 8) (o := { dst := some 17, op := Op.nilCheck (Operand.tmp 9), type := 0, pos := "roam.go:133", after := #[{ on := 0, ground := Ground.data }, { on := 0, ground := Ground.phase }, { on := 1, ground := Ground.phase }, { on := 2, ground := Ground.phase }, { on := 3, ground := Ground.phase }, { on := 4, ground := Ground.phase }, { on := 5, ground := Ground.phase }, { on := 6, ground := Ground.phase }, { on := 7, ground := Ground.phase }], guard := none }) (by kernel_rfl) rfl (fun K hK => ?_)
  go_simp
  refine hK.out _ _ (fun _ => hS4) ?_
  clear hK K
  try simp only [Act.put, List.setIfInBounds_toArray, List.set_cons_zero, List.set_cons_succ]
  refine B.Till.next (i := 9) (o := { dst := some 18, op := Op.fieldAddr 70 (Operand.tmp 17) 5, type := 0, pos := "roam.go:133", after := #[{ on := 8, ground := Ground.data }, { on := 0, ground := Ground.phase }, { on := 1, ground := Ground.phase }, { on := 2, ground := Ground.phase }, { on := 3, ground := Ground.phase }, { on := 4, ground := Ground.phase }, { on := 5, ground := Ground.phase }, { on := 6, ground := Ground.phase }, { on := 7, ground := Ground.phase }], guard := none }) (by kernel_rfl) rfl (fun K hK => ?_)
  go_simp
  refine hK.out _ _ (fun _ => hS4) ?_
  clear hK K
  try simp only [Act.put, List.setIfInBounds_toArray, List.set_cons_zero, List.set_cons_succ]
  refine B.Till.next (i := 10) (o := { dst := none, op := Op.store 38 (Operand.tmp 18) (Operand.tmp 16), type := 0, pos := "roam.go:133", after := #[{ on := 9, ground := Ground.data }, { on := 7, ground := Ground.data }, { on := 7, ground := Ground.chain }, { on := 0, ground := Ground.phase }, { on := 1, ground := Ground.phase }, { on := 2, ground := Ground.phase }, { on := 3, ground := Ground.phase }, { on := 4, ground := Ground.phase }, { on := 5, ground := Ground.phase }, { on := 6, ground := Ground.phase }, { on := 7, ground := Ground.phase }], guard := none }) (by kernel_rfl) rfl (fun K hK => ?_)
  obtain ⟨_, c6, f6⟩ := HCb.out _ hS4.1
  go_simp
  refine hK.out _ _ (fun q => absurd rfl q) ?_
  clear hK K
  try simp only [Act.put, List.setIfInBounds_toArray, List.set_cons_zero, List.set_cons_succ]
  refine B.Till.done (by kernel_rfl) ?_
-- TILL 1 END
  generalize w4.setCell ⟨b, 6, none⟩ (.slice (some ⟨g1, 0, none⟩) (D.length + 1) cap1) = w5 at HW4 ⊢
  clear c6 f6 hS4 hHeld HW3 HW3' HO3 HG3 HLb2 HLx2 HNb HNx HLb HLx HCb HCx HX3 HNe0
  have hw : IntKind.i64.wrap (((r.length + 1 : Nat) : Int) - 1) = (r.length : Int) := by rw [IntWalk.i64_in _ (by omega)]; omega
  have hw2 : IntKind.i64.wrap (r.length : Int) = (r.length : Int) := IntWalk.i64_in _ (by omega)
  have hl : r.length ≤ cap := by omega
  have c5 : w5.cell? ⟨b, 5, none⟩ = some (.slice (some ⟨k, 0, none⟩) (r.length + 1) cap) := HW4.out.cell (j := 5) rfl
  go_upto_region 3 with fail
  go_still_tail 14, (by kernel_rfl)
  change wpList _ _ _ _ _ w5.drew
  have HW6 := Lib.hid (HW4.out.keep (drewn_below (n := 1) (Below.refl _ _)))
  change Hid (Wk W0 R nb nc b p u g most all (x :: r) _ _ _ w5.drew) at HW6
  clear c5 HW4
  generalize w5.drew = w6 at HW6 ⊢
  have c5 := HW6.out.cell (j := 5) rfl
  have f5 := HW6.out.free 5
  have HW7 := Lib.hid HW6.out.pop
  go_wp2_with fail
  go_end0
  exact ⟨rfl, _, _, HW7.out⟩
end
end Go.Proofs.YtcjbnjoomgagjaaGreatDoor.G
namespace Go.Proofs.YtcjbnjoomgagjaaGreatDoor.G
open Go.RowKit
abbrev Ent := ByteArray × Int
def hidB (e : Ent) : Bool := e.1.data.toList.head? == some 46
theorem prefix_point (l : List UInt8) : Lib.hasPrefix l [46] = (l.head? == some 46) := by
  unfold Lib.hasPrefix
  cases l with
  | nil => rfl
  | cons a r =>
    show ((46 : UInt8) == a && true) = _
    rw [Bool.and_true, List.head?_cons, Bool.eq_iff_iff]
    exact ⟨fun h => by rw [beq_iff_eq] at h ⊢; rw [h], fun h => by rw [beq_iff_eq] at h ⊢; exact (Option.some.inj h).symm⟩
theorem hidden_any (e : Ent) (w : World) :
    Calls Tryz.prog 33 #[.agg #[.string e.1, .int .i64 e.2]] w fun x w' => x = .returned (.bool (hidB e)) ∧ Below w.heap.size w w' := by
  have HP := Lib.hid (fun W => Tryz.strings_HasPrefix e.1 ⟨#[46]⟩ W)
  have hp : Lib.hasPrefix e.1.data.toList (⟨#[46]⟩ : ByteArray).data.toList = hidB e := prefix_point _
  rw [hp] at HP
  clear hp
  go_enter Tryz.func33, Tryz.ntmps33
  go_wp2_with fail
  refine (HP.out _).mono ?_
  rintro x w' ⟨rfl, rfl⟩
  go_wp2_with fail
  go_ret
  exact ⟨rfl, (Below.refl _ _).alloc (Nat.le_refl _) _⟩
def IdxRel (l : List Ent) (w : World) (v : Value) (wr : World) : Prop :=
  ∃ k : Nat, k ≤ l.length ∧ v = .int .i64 (k : Int) ∧ Hid (Below w.heap.size w wr) ∧ Hid (∀ (j : Nat) (e : Ent), j < k → l[j]? = some e → hidB e = false)
def FirstH (l : List Ent) (r : Int) : Prop := (r = -1 ∧ ∀ e ∈ l, hidB e = false) ∨ ∃ (i : Nat) (e : Ent), r = (i : Int) ∧ l[i]? = some e ∧ hidB e = true ∧ ∀ (j : Nat) (x : Ent), j < i → l[j]? = some x → hidB x = false
set_option maxRecDepth 100000 in
set_option maxHeartbeats 4000000 in
theorem index_any (v : Value) (l : List Ent) (b : Nat) (w : World) (H : w.ownsRow b 81 2 v l.length (rowsC enC' l)) (hl : l.length ≤ 1000000) :
    Calls Tryz.prog 54 #[v, .func (.func 33) #[] #[]] w fun x w' => ∃ r, x = .returned (.int .i64 r) ∧ FirstH l r ∧ Below w.heap.size w w' := by
  obtain ⟨ao, cap, rfl⟩ := B.owns_form H
  have HH := Lib.hid H
  clear H
  go_enter Tryz.func54, Tryz.ntmps54
  go_wp2_with fail
  go_loopw [8] (IdxRel l w) (fun v _ => l.length - (intOf v).toNat)
  case atStart => exact ⟨0, Nat.zero_le _, rfl, Lib.hid (Below.refl _ _), Lib.hid (fun j e hj => by omega)⟩
  case round =>
    obtain ⟨k, hk, rfl, HB, HN⟩ := hrel
    by_cases hlt : k < l.length
    · have d1 : decide ((k : Int) < (l.length : Int)) = true := decide_eq_true (by omega)
      obtain ⟨e, he⟩ : ∃ e, l[k]? = some e := ⟨_, List.getElem?_eq_getElem hlt⟩
      have HE := Lib.hid he
      obtain ⟨g, c2, hv, _, _⟩ := B.owns_some HH.out (by omega)
      simp only [Value.slice.injEq] at hv
      obtain ⟨rfl, _, rfl⟩ := hv
      have HW := Lib.hid (B.owns_to HH.out HB.out)
      have r0 : wr.cell? ⟨g, k * 2, none⟩ = some (.string e.1) := B.owns_cell HW.out ((rowsC_get enC'_len _ _ 0 _ he (by decide)).trans rfl)
      have r1 : wr.cell? ⟨g, k * 2 + 1, none⟩ = some (.int .i64 e.2) := B.owns_cell HW.out ((rowsC_get enC'_len _ _ 1 _ he (by decide)).trans rfl)
      clear he
      go_wp2_with fail
      refine (hidden_any e wr).mono ?_
      rintro x w2 ⟨rfl, hb⟩
      have HB2 := Lib.hid (HB.out.trans (hb.mono HB.out.size))
      clear hb r0 r1
      cases hh : hidB e with
      | true =>
        have HHe := Lib.hid hh
        clear hh
        go_wp2_with fail
        go_ret
        exact ⟨_, rfl, .inr ⟨k, e, rfl, HE.out, HHe.out, HN.out⟩, HB2.out⟩
      | false =>
        have HHe := Lib.hid hh
        clear hh
        go_wp2_with fail
        go_roundw
        case rel => exact ⟨k + 1, by omega, by simp, HB2, Lib.hid (fun j x hj hx => by
          rcases Nat.lt_or_ge j k with q | q
          · exact HN.out j x q hx
          · obtain rfl : j = k := by omega
            rw [HE.out] at hx
            obtain rfl := Option.some.inj hx
            exact HHe.out)⟩
        case measure => simp [intOf]; omega
    · have d1 : decide ((k : Int) < (l.length : Int)) = false := decide_eq_false (by omega)
      obtain rfl : k = l.length := by omega
      go_wp2_with fail
      go_ret
      exact ⟨_, rfl, .inl ⟨rfl, fun e he => by
        obtain ⟨j, hj⟩ := List.mem_iff_getElem?.1 he
        exact HN.out j e (List.getElem?_eq_some_iff.1 hj).1 hj⟩, HB.out⟩
def keepL (l : List Ent) : List Ent := l.filter fun e => !hidB e
def DelOk (l Z : List Ent) (i j : Nat) : Prop := Z.length = l.length ∧ Z.take i = keepL (l.take j) ∧ Z.drop j = l.drop j ∧ i < j
theorem DelOk.start {l : List Ent} {i : Nat} {e : Ent} (he : l[i]? = some e) (hh : hidB e = true) (hb : ∀ (j : Nat) (x : Ent), j < i → l[j]? = some x → hidB x = false) : DelOk l l i (i + 1) := by
  refine ⟨rfl, ?_, rfl, by omega⟩
  unfold keepL
  rw [List.take_add_one, he, List.filter_append]
  have h1 : [e].filter (fun e => !hidB e) = [] := by rw [List.filter_cons, if_neg (by rw [hh]; decide), List.filter_nil]
  have h2 : (l.take i).filter (fun e => !hidB e) = l.take i := List.filter_eq_self.2 fun x hx => by
    obtain ⟨j, hj⟩ := List.mem_iff_getElem?.1 hx
    have hlt : j < i := by
      have := (List.getElem?_eq_some_iff.1 hj).1
      rw [List.length_take] at this
      omega
    rw [List.getElem?_take, if_pos hlt] at hj
    rw [hb j x hlt hj]
    rfl
  show l.take i = _ ++ [e].filter _
  rw [h1, h2, List.append_nil]
theorem DelOk.at_ {l Z : List Ent} {i j : Nat} (h : DelOk l Z i j) {e : Ent} (he : l[j]? = some e) : Z[j]? = some e := by
  have h1 := congrArg (fun x => x[0]?) h.2.2.1
  simp only [List.getElem?_drop, Nat.add_zero] at h1
  rw [h1, he]
theorem take_snoc {l : List Ent} {j : Nat} {e : Ent} (he : l[j]? = some e) : l.take (j + 1) = l.take j ++ [e] := by
  rw [List.take_add_one, he]; rfl
theorem drop_next {l Z : List Ent} {j : Nat} (h : Z.drop j = l.drop j) : Z.drop (j + 1) = l.drop (j + 1) := by
  have := congrArg (List.drop 1) h
  rwa [List.drop_drop, List.drop_drop] at this
theorem DelOk.skip {l Z : List Ent} {i j : Nat} (h : DelOk l Z i j) {e : Ent} (he : l[j]? = some e) (hh : hidB e = true) : DelOk l Z i (j + 1) := by
  refine ⟨h.1, ?_, drop_next h.2.2.1, by have := h.2.2.2; omega⟩
  rw [take_snoc he, h.2.1]
  unfold keepL
  rw [List.filter_append, show [e].filter (fun e => !hidB e) = [] by rw [List.filter_cons, if_neg (by rw [hh]; decide), List.filter_nil], List.append_nil]
theorem DelOk.put {l Z : List Ent} {i j : Nat} (h : DelOk l Z i j) {e : Ent} (he : l[j]? = some e) (hh : hidB e = false) : DelOk l (Z.set i e) (i + 1) (j + 1) := by
  have hj : j < l.length := (List.getElem?_eq_some_iff.1 he).1
  have hlt := h.2.2.2
  refine ⟨by rw [List.length_set]; exact h.1, ?_, ?_, by omega⟩
  · rw [take_snoc (by rw [List.getElem?_set, if_pos rfl, if_pos (by rw [h.1]; omega)]), List.take_set_of_le (Nat.le_refl i), h.2.1, take_snoc he]
    unfold keepL
    rw [List.filter_append, show [e].filter (fun e => !hidB e) = [e] by rw [List.filter_cons, if_pos (by rw [hh]; rfl), List.filter_nil]]
  · rw [List.drop_set_of_lt (by omega)]
    exact drop_next h.2.2.1
theorem infoEnt : (Tryz.prog.info? 81).map (fun i => (i.zero, i.size, i.bytes)) = some (some (.agg #[.string ⟨#[]⟩, .int .i64 0]), 2, 24) := by kernel_rfl
theorem owns_pair {w : World} {b g n cap : Nat} {Z : List Ent} (h : w.ownsRow b 81 2 (.slice (some ⟨g, 0, none⟩) n cap) n (rowsC enC' Z)) {i : Nat} (hi : i < Z.length) (e : Ent) :
    (w.setCells g (i * 2) [.string e.1, .int .i64 e.2]).ownsRow b 81 2 (.slice (some ⟨g, 0, none⟩) n cap) n (rowsC enC' (Z.set i e)) := by
  obtain ⟨x, hx⟩ : ∃ x, Z[i]? = some x := ⟨_, List.getElem?_eq_getElem hi⟩
  have hlen := rowsC_len enC'_len Z
  have h1 := B.owns_setCell h (j := i * 2 + 0) (by rw [hlen]; omega) (.string e.1)
  rw [rowsC_set enC'_len Z i 0 x (e.1, x.2) (.string e.1) hx (by decide) rfl] at h1
  have h2 := B.owns_setCell h1 (j := i * 2 + 1) (by rw [rowsC_len enC'_len, List.length_set]; omega) (.int .i64 e.2)
  rw [rowsC_set enC'_len (Z.set i (e.1, x.2)) i 1 (e.1, x.2) e (.int .i64 e.2) (by rw [List.getElem?_set, if_pos rfl, if_pos hi]) (by decide) rfl, List.set_set] at h2
  exact h2
theorem zeros_len (z : Array Value) (hz : z.size = 2) (n : Nat) : (Builtin.zeroCells z n).toList.length = n * 2 := by
  simp [Builtin.zeroCells, hz]
theorem zeros_one (n : Nat) : ∀ u ∈ (Builtin.zeroCells #[.string ⟨#[]⟩, .int .i64 0] n).toList, u.oneCell' = true := by
  intro u hu
  simp only [Builtin.zeroCells, Array.toList_map, List.mem_map] at hu
  obtain ⟨k, _, rfl⟩ := hu
  have : k % 2 = 0 ∨ k % 2 = 1 := by omega
  show Value.oneCell' ((#[Value.string ⟨#[]⟩, Value.int .i64 0] : Array Value)[k % 2]!) = true
  rcases this with h | h <;> (rw [h]; rfl)
end Go.Proofs.YtcjbnjoomgagjaaGreatDoor.G
