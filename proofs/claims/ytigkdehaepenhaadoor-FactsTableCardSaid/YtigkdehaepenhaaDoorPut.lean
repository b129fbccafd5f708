/-
  Members of several cells stored into a row that a call has made; rows of zeros; what growth keeps. Conditions: each fact's own.
-/
import Derived.Test.YtigkdehaepenhaaDoorRow
set_option linter.unusedVariables false
namespace Go.Proofs.YtigkdehaepenhaaDoor.B
open Go.RowKit

theorem setCells_nil (w : World) (b o : Nat) : w.setCells b o [] = w := rfl
theorem setCells_cons (w : World) (b o : Nat) (v : Value) (r : List Value) : w.setCells b o (v :: r) = (w.setCell ⟨b, o, none⟩ v).setCells b (o + 1) r := rfl
theorem heap_setCells_ne (b : Nat) {i : Nat} (hne : i ≠ b) : ∀ (vs : List Value) (o : Nat) (w : World), (w.setCells b o vs).heap[i]? = w.heap[i]?
  | [], o, w => rfl
  | v :: r, o, w => by rw [setCells_cons, heap_setCells_ne b hne r, heap_setCell_other _ _ _ _ hne]
theorem below_cells {B : Nat} {w0 : World} (b : Nat) (hb : B ≤ b) : ∀ (vs : List Value) (o : Nat) (w : World), Below B w0 w → Below B w0 (w.setCells b o vs)
  | [], o, w, h => h
  | v :: r, o, w, h => by rw [setCells_cons]; exact below_cells b hb r (o + 1) _ (h.setCell (p := ⟨b, o, none⟩) hb v)
theorem size_setCells (b : Nat) : ∀ (vs : List Value) (o : Nat) (w : World), (w.setCells b o vs).heap.size = w.heap.size
  | [], o, w => rfl
  | v :: r, o, w => by rw [setCells_cons, size_setCells b r]; simp [World.setCell]
theorem owns_setCells {base : Nat} {e : TypeId} {size g n cap : Nat} : ∀ (vs : List Value) (o : Nat) (w : World) (xs : List Value), w.ownsRow base e size (.slice (some ⟨g, 0, none⟩) n cap) n xs → o + vs.length ≤ xs.length →
    (w.setCells g o vs).ownsRow base e size (.slice (some ⟨g, 0, none⟩) n cap) n (xs.take o ++ vs ++ xs.drop (o + vs.length))
  | [], o, w, xs, h, _ => by rw [setCells_nil, List.append_nil, List.length_nil, Nat.add_zero, List.take_append_drop]; exact h
  | v :: r, o, w, xs, h, hl => by
    rw [List.length_cons] at hl
    have h1 := owns_setCell h (j := o) (by omega) v
    have h2 := owns_setCells r (o + 1) _ _ h1 (by rw [List.length_set]; omega)
    rw [setCells_cons]
    have e : (xs.set o v).take (o + 1) ++ r ++ (xs.set o v).drop (o + 1 + r.length) = xs.take o ++ (v :: r) ++ xs.drop (o + (v :: r).length) := by
      rw [List.drop_set_of_lt (by omega), List.take_set, List.length_cons, show o + 1 + r.length = o + (r.length + 1) by omega]
      have : (xs.take (o + 1)).set o v = xs.take o ++ [v] := by
        rw [List.take_succ_eq_append_getElem (by omega), List.set_append_right _ _ (by rw [List.length_take]; omega), List.length_take, show o - min o xs.length = 0 by omega]
        rfl
      rw [this, List.append_assoc, List.append_assoc, List.append_assoc]
      rfl
    rwa [e] at h2
section
variable {α : Type} {f : α → List Value} {k : Nat}
theorem cellsC_splice (hk : ∀ x, (f x).length = k) (x : α) : ∀ (Z : List α) (i : Nat), i < Z.length → (cellsC f Z).take (i * k) ++ f x ++ (cellsC f Z).drop (i * k + k) = cellsC f (Z.set i x)
  | [], i, h => by simp at h
  | y :: r, 0, _ => by
    rw [Nat.zero_mul, Nat.zero_add, List.take_zero, List.nil_append, cellsC, List.drop_append_of_le_length (by rw [hk]; exact Nat.le_refl _), List.drop_of_length_le (by rw [hk]; exact Nat.le_refl _), List.nil_append, List.set_cons_zero, cellsC]
  | y :: r, i + 1, h => by
    have ih := cellsC_splice hk x r i (by simpa using h)
    rw [List.set_cons_succ, cellsC, cellsC, ← ih, show (i + 1) * k = k + i * k by rw [Nat.add_mul]; omega, List.take_append, hk, List.take_of_length_le (by rw [hk]; omega), Nat.add_sub_cancel_left, Nat.add_assoc, List.drop_append, hk, List.drop_of_length_le (by rw [hk]; omega), List.nil_append, Nat.add_sub_cancel_left]
    simp
theorem owns_put {w : World} {base : Nat} {e : TypeId} {g n cap : Nat} {Z : List α} (hk : ∀ x, (f x).length = k) (h : w.ownsRow base e k (.slice (some ⟨g, 0, none⟩) n cap) n (cellsC f Z)) {i : Nat} (hi : i < Z.length) (x : α) :
    (w.setCells g (i * k) (f x)).ownsRow base e k (.slice (some ⟨g, 0, none⟩) n cap) n (cellsC f (Z.set i x)) := by
  have hl : i * k + k ≤ (cellsC f Z).length := by
    rw [cellsC_len hk]
    have : (i + 1) * k ≤ Z.length * k := Nat.mul_le_mul_right _ (by omega)
    rw [Nat.add_mul] at this
    omega
  have h1 := owns_setCells (f x) (i * k) w _ h (by rw [hk]; exact hl)
  rw [hk, cellsC_splice hk x Z i hi] at h1
  exact h1
theorem owns_there {w : World} {base : Nat} {e : TypeId} {g n cap : Nat} {Z : List α} (hk : ∀ x, (f x).length = k) (h : w.ownsRow base e k (.slice (some ⟨g, 0, none⟩) n cap) n (cellsC f Z)) {i : Nat} (hi : i < Z.length) : w.there g (i * k) k := fun j hj => by
  refine ⟨?_, owns_frozen h _⟩
  have hl : i * k + j < (cellsC f Z).length := by
    rw [cellsC_len hk]
    have : (i + 1) * k ≤ Z.length * k := Nat.mul_le_mul_right _ (by omega)
    rw [Nat.add_mul] at this
    omega
  rw [owns_cell h (List.getElem?_eq_getElem hl)]
  rfl
/-- A row of as many zeros. -/
theorem made_cells {z : Array Value} (hz : z.size = k) (x : α) (hx : f x = z.toList) (h0 : 0 < k) : ∀ n : Nat, (madeCells z (n * k)).toList = cellsC f (List.replicate n x)
  | 0 => by rw [Nat.zero_mul]; simp [madeCells, cellsC]
  | n + 1 => by
    have ih := made_cells hz x hx h0 n
    rw [List.replicate_succ', cellsC_app, cellsC_one, ← ih, hx]
    unfold madeCells
    rw [Array.toList_map, Array.toList_map, Array.toList_range, Array.toList_range, show (n + 1) * k = n * k + k by rw [Nat.add_mul]; omega, List.range_add, List.map_append]
    congr 1
    rw [List.map_map]
    apply List.ext_getElem?
    intro j
    rw [List.getElem?_map]
    by_cases hj : j < k
    · rw [List.getElem?_range hj, Option.map_some, Array.getElem?_toList]
      show some (z[(n * k + j) % z.size]!) = _
      rw [hz, show (n * k + j) % k = j by rw [Nat.mul_comm, Nat.mul_add_mod, Nat.mod_eq_of_lt hj]]
      rw [getElem!_pos z j (by omega), Array.getElem?_eq_getElem (by omega)]
    · rw [List.getElem?_eq_none (by rw [List.length_range]; omega), Array.getElem?_toList, Array.getElem?_eq_none (by omega)]
      rfl
end
/-- The first i members set, zeros behind. -/
def setsL {α : Type} (l : List α) (z : α) (i : Nat) : List α := l.take i ++ List.replicate (l.length - i) z
theorem sets_len {α : Type} {l : List α} {z : α} {i : Nat} (h : i ≤ l.length) : (setsL l z i).length = l.length := by
  unfold setsL
  rw [List.length_append, List.length_take, List.length_replicate]
  omega
theorem sets_zero {α : Type} (l : List α) (z : α) : setsL l z 0 = List.replicate l.length z := by
  unfold setsL
  rw [List.take_zero, List.nil_append, Nat.sub_zero]
theorem sets_all {α : Type} (l : List α) (z : α) : setsL l z l.length = l := by
  unfold setsL
  rw [List.take_length, Nat.sub_self]
  exact List.append_nil _
theorem sets_step {α : Type} {l : List α} {z : α} {i : Nat} {x : α} (h : l[i]? = some x) : (setsL l z i).set i x = setsL l z (i + 1) := by
  obtain ⟨hi, hx⟩ := List.getElem?_eq_some_iff.1 h
  unfold setsL
  obtain ⟨k, hk⟩ : ∃ k, l.length = i + 1 + k := ⟨l.length - (i + 1), by omega⟩
  rw [hk, show i + 1 + k - i = k + 1 by omega, show i + 1 + k - (i + 1) = k by omega, List.replicate_succ, List.set_append_right _ _ (by rw [List.length_take]; omega), List.length_take, show i - min i l.length = 0 by omega, List.set_cons_zero, List.take_succ_eq_append_getElem hi, hx, List.append_assoc]
  rfl
/-- A store of several cells, at a step of a region that draws its order. -/
theorem step_store_mid {P : Program} {ops : Array Oper} {o : Oper} {a : Act} {w : World} {K : Act → World → Prop} {Q : Exit → Act → World → Prop} {E : Prop} (hgd : o.guard = none) (ty : TypeId) (x y : Operand) (ho : o.op = .store ty x y)
    (b off : Nat) (cells : Array Value) (hx : a.eval x = .pointer (some ⟨b, off, none⟩)) (hy : a.eval y = .agg cells)
    (ht : w.there b off cells.size) (hi : (P.info? ty).map (·.size) = some cells.size) (h1 : cells.all (·.oneCell') = true)
    (h : K (a.put o.dst undef) (w.setCells b off cells.toList)) : if Region.wanted o (yielded ops a.tmps) = true then Oper.wp P o a w K Q else E := by
  have hw : Region.wanted o (yielded ops a.tmps) = true := by simp [Region.wanted, hgd]
  rw [if_pos hw]
  exact wp_store_mid ty x y ho b off cells hx hy ht hi h1 h
/-- A whole row stored, at a step of a region that draws its order. -/
theorem step_store_own {P : Program} {ops : Array Oper} {o : Oper} {a : Act} {w : World} {K : Act → World → Prop} {Q : Exit → Act → World → Prop} {E : Prop} (hgd : o.guard = none) (ty : TypeId) (x y : Operand) (ho : o.op = .store ty x y)
    (g : Nat) (cells : Array Value) (hx : a.eval x = .pointer (some ⟨g, 0, none⟩)) (hy : a.eval y = .agg cells)
    (t : TypeId) (old : Array Value) (hg : w.heap[g]? = some (.cells old t (0, 0))) (hi : (P.info? ty).map (·.size) = some cells.size)
    (hold : old.size = cells.size) (h1 : cells.all (·.oneCell') = true) (h : K (a.put o.dst undef) (w.setRow g cells)) :
    if Region.wanted o (yielded ops a.tmps) = true then Oper.wp P o a w K Q else E := by
  have hw : Region.wanted o (yielded ops a.tmps) = true := by simp [Region.wanted, hgd]
  rw [if_pos hw]
  exact wp_store_row ty x y ho g cells hx hy t old hg hi hold h1 h
theorem below_setR {B g : Nat} {a w : World} (h : Below B a w) (hg : B ≤ g) (cs : Array Value) : Below B a (w.setRow g cs) :=
  ⟨h.os, h.tape, h.output, by have := h.size; simp [World.setRow]; omega, fun k hk => by rw [setRow_other _ _ _ _ (by omega)]; exact h.block k hk⟩
theorem owns_low {w : World} {b c : Nat} {e : TypeId} {size n : Nat} {v : Value} {xs : List Value} (h : w.ownsRow b e size v n xs) (hc : c ≤ b) : w.ownsRow c e size v n xs := by
  refine ⟨h.1, ?_⟩
  rcases h.2 with q | ⟨g, cap, cur, q1, q2, q3⟩
  · exact .inl q
  · exact .inr ⟨g, cap, cur, q1, Nat.le_trans hc q2, q3⟩
theorem three_new (w : World) (a b c : Obj) : ((((w.alloc a).alloc b).alloc c).heap[w.heap.size]? = some a) ∧ ((((w.alloc a).alloc b).alloc c).heap[w.heap.size + 1]? = some b) ∧ ((((w.alloc a).alloc b).alloc c).heap[w.heap.size + 1 + 1]? = some c) := by
  have s1 : (w.alloc a).heap.size = w.heap.size + 1 := by simp
  have s2 : ((w.alloc a).alloc b).heap.size = w.heap.size + 1 + 1 := by simp
  refine ⟨?_, ?_, ?_⟩
  · rw [heap_alloc_old _ _ (by omega), heap_alloc_old _ _ (by omega)]
    exact heap_alloc_new _ _
  · rw [heap_alloc_old _ _ (by omega), ← s1]
    exact heap_alloc_new _ _
  · rw [← s2]
    exact heap_alloc_new _ _
theorem two_new (w : World) (a b : Obj) : ((w.alloc a).alloc b).heap[w.heap.size]? = some a ∧ ((w.alloc a).alloc b).heap[w.heap.size + 1]? = some b := by
  have s1 : (w.alloc a).heap.size = w.heap.size + 1 := by simp
  refine ⟨?_, ?_⟩
  · rw [heap_alloc_old _ _ (by omega)]
    exact heap_alloc_new _ _
  · rw [← s1]
    exact heap_alloc_new _ _
/-- A row of another type. -/
theorem ne_type {w : World} {b : Nat} {e t : TypeId} {s n k : Nat} {v : Value} {xs : List Value} {cur : Array Value} {fr : Nat × Nat} (ho : w.ownsRow b e s v n xs) (hx : w.heap[k]? = some (.cells cur t fr)) (h : t ≠ e) : some k ≠ v.ownBlock := fun q => by
  obtain ⟨c, hc⟩ := owns_type ho q.symm
  rw [hx] at hc
  simp only [Option.some.injEq, Obj.cells.injEq] at hc
  exact h hc.2.1
end Go.Proofs.YtigkdehaepenhaaDoor.B
