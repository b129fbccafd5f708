/-
  Lists of lists of names, as they lie in memory: a row of slices, each of which is a row of its own. Conditions: each fact's own.
-/
import Derived.Test.YtemnbleacjpfcaaDoorBase
set_option linter.unusedVariables false
namespace Go.Proofs.YtemnbleacjpfcaaDoor.L
open Go.Proofs.YtemnbleacjpfcaaDoor.B
open Go.RowKit

/-- A row of slices of texts in block g; eL, eS: the types of its cells, and of theirs. -/
structure ColsAt (W : World) (B : Nat) (eL eS : TypeId) (g : Nat) (C : List (List ByteArray)) : Prop where
  lo : B ≤ g
  row : ∃ vs : List Value, W.heap[g]? = some (.cells vs.toArray eL (0, 0)) ∧ vs.length = C.length ∧ ∀ (c : Nat) (v : Value) (x : List ByteArray), vs[c]? = some v → C[c]? = some x → W.ownsRow B eS 1 v x.length (strs x)
theorem ColsAt.lt {W : World} {B : Nat} {eL eS : TypeId} {g : Nat} {C : List (List ByteArray)} (h : ColsAt W B eL eS g C) : g < W.heap.size := by
  obtain ⟨vs, h1, _⟩ := h.row
  exact heap_lt h1
theorem ColsAt.keep {W W' : World} {B : Nat} {eL eS : TypeId} {g : Nat} {C : List (List ByteArray)} (h : ColsAt W B eL eS g C) (hb : Below W.heap.size W W') : ColsAt W' B eL eS g C := by
  obtain ⟨vs, h1, h2, h3⟩ := h.row
  exact ⟨h.lo, vs, (hb.block _ (heap_lt h1)).trans h1, h2, fun c v x hv hx => owns_to (h3 c v x hv hx) hb⟩
theorem ColsAt.get {W : World} {B : Nat} {eL eS : TypeId} {g : Nat} {C : List (List ByteArray)} (h : ColsAt W B eL eS g C) {c : Nat} {x : List ByteArray} (hx : C[c]? = some x) :
    ∃ ao cap, W.cell? ⟨g, c, none⟩ = some (.slice ao x.length cap) ∧ W.frozen? ⟨g, c, none⟩ = false ∧ W.ownsRow B eS 1 (.slice ao x.length cap) x.length (strs x) := by
  obtain ⟨vs, h1, h2, h3⟩ := h.row
  have hc := (List.getElem?_eq_some_iff.1 hx).1
  obtain ⟨v, hv⟩ : ∃ v, vs[c]? = some v := ⟨_, List.getElem?_eq_getElem (by omega)⟩
  have ho := h3 c v x hv hx
  obtain ⟨ao, cap, rfl⟩ := owns_form ho
  refine ⟨ao, cap, ?_, frozen_of_row _ _ _ _ _ h1, ho⟩
  rw [cell_of_row _ _ _ _ _ _ h1, List.getElem?_toArray]
  exact hv
theorem ColsAt.set {W W1 : World} {B : Nat} {eL eS : TypeId} {g : Nat} {C : List (List ByteArray)} (h : ColsAt W B eL eS g C) (hb : Below W.heap.size W W1) (hne : eL ≠ eS) (c : Nat) {v : Value} {x : List ByteArray} (ho : W1.ownsRow B eS 1 v x.length (strs x)) : ColsAt (W1.setCell ⟨g, c, none⟩ v) B eL eS g (C.set c x) := by
  obtain ⟨vs, h1, h2, h3⟩ := (h.keep hb).row
  have hs := heap_setCell_same W1 g c vs.toArray eL v h1
  have apart : ∀ {u : Value} {y : List ByteArray}, W1.ownsRow B eS 1 u y.length (strs y) → (W1.setCell ⟨g, c, none⟩ v).ownsRow B eS 1 u y.length (strs y) := fun hu => owns_at hu fun k hk => heap_setCell_other _ _ _ _ (fun z => by
    subst z
    obtain ⟨cur, hcur⟩ := owns_type hu hk
    rw [h1] at hcur
    simp only [Option.some.injEq, Obj.cells.injEq] at hcur
    exact hne hcur.2.1)
  refine ⟨h.lo, vs.set c v, ?_, by rw [List.length_set, List.length_set]; exact h2, fun d u y hu hy => ?_⟩
  · rw [hs, List.setIfInBounds_toArray]
  · by_cases q : c = d
    · subst q
      have l1 : c < vs.length := by have := (List.getElem?_eq_some_iff.1 hu).1; rwa [List.length_set] at this
      rw [List.getElem?_set_self l1] at hu
      rw [List.getElem?_set_self (by omega)] at hy
      obtain rfl := Option.some.inj hu
      obtain rfl := Option.some.inj hy
      exact apart ho
    · rw [List.getElem?_set_ne q] at hu hy
      exact apart (h3 d u y hu hy)
theorem ColsAt.made {W : World} {B g n : Nat} {eL eS : TypeId} (ho : W.ownsRow B eL 1 (.slice (some ⟨g, 0, none⟩) n n) n (List.replicate n (.slice none 0 0))) : ColsAt W B eL eS g (List.replicate n []) := by
  rcases ho.2 with ⟨h, _⟩ | ⟨g', cap', cur, hv, hb, hg, hnc, hcm, hcs, ht⟩
  · cases h
  · simp only [Value.slice.injEq, Option.some.injEq, Addr.mk.injEq] at hv
    obtain ⟨⟨rfl, _, _⟩, _, rfl⟩ := hv
    rw [Nat.mul_one] at hcs ht
    rw [List.take_of_length_le (by rw [Array.length_toList, hcs]; exact Nat.le_refl _)] at ht
    refine ⟨hb, List.replicate n (.slice none 0 0), by rw [hg, ← ht], by rw [List.length_replicate, List.length_replicate], fun c v x hv hx => ?_⟩
    rw [List.getElem?_replicate] at hv hx
    split at hv
    · rename_i q
      rw [if_pos q] at hx
      obtain rfl := Option.some.inj hv
      obtain rfl := Option.some.inj hx
      exact W.ownsRow_nil B eS 1
    · cases hv
end Go.Proofs.YtemnbleacjpfcaaDoor.L
