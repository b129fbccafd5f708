/-
  The covers copied, one of them turned; what a covered directory makes of the relation. Conditions: none.
-/
import Derived.Test.YtigkdehaepenhaaGreatDoorVRefDo0
set_option linter.unusedVariables false
namespace Go.Proofs.YtigkdehaepenhaaGreatDoor.V
open Go.RowKit

theorem But.setNew {b : Nat} {w w' : World} (h : But b w w') {g : Nat} (hg : w.heap.size ≤ g) (j : Nat) (u : Value) : But b w (w'.setCell ⟨g, j, none⟩ u) :=
  ⟨h.os, h.tape, h.output, by rw [size_setCell]; exact h.size, fun k hk hn => by rw [heap_setCell_other _ _ _ _ (by show k ≠ g; omega)]; exact h.block k hk hn⟩
theorem coverC {W wq w1 : World} {v : Rv} {c : Chg} {g1 cap1 n j : Nat} {u : Value} {o : Obj} {mN mL mD mA mF : Nat} {xN xL xs xD xA xF : List Value} (D : DIn W v c wq) (O : ROwn wq v mN xN mL xL n xs mD xD mA xA mF xF) (hj : j < xs.length)
    (h1 : w1.ownsRow wq.heap.size 3 1 (.slice (some ⟨g1, 0, none⟩) n cap1) (0 + n) ([] ++ xs)) (hg : (wq.alloc o).grownBy w1 (Value.slice (some ⟨wq.heap.size, 0, none⟩) 0 0).ownBlock) :
    (w1.cell? ⟨W.heap.size, 2, none⟩ = some v.c ∧ w1.frozen? ⟨W.heap.size, 2, none⟩ = false) ∧ DIn W { v with c := .slice (some ⟨g1, 0, none⟩) n cap1 } c (w1.setCell ⟨W.heap.size, 2, none⟩ (.slice (some ⟨g1, 0, none⟩) n cap1)) ∧ ((w1.setCell ⟨W.heap.size, 2, none⟩ (.slice (some ⟨g1, 0, none⟩) n cap1)).cell? ⟨g1, j, none⟩ = xs[j]? ∧ (w1.setCell ⟨W.heap.size, 2, none⟩ (.slice (some ⟨g1, 0, none⟩) n cap1)).frozen? ⟨g1, j, none⟩ = false) ∧
    DIn W { v with c := .slice (some ⟨g1, 0, none⟩) n cap1 } c ((w1.setCell ⟨W.heap.size, 2, none⟩ (.slice (some ⟨g1, 0, none⟩) n cap1)).setCell ⟨g1, j, none⟩ u) ∧ ROwn ((w1.setCell ⟨W.heap.size, 2, none⟩ (.slice (some ⟨g1, 0, none⟩) n cap1)).setCell ⟨g1, j, none⟩ u) { v with c := .slice (some ⟨g1, 0, none⟩) n cap1 } mN xN mL xL n (xs.set j u) mD xD mA xA mF xF := by
  have hbl := heap_lt D.box
  obtain ⟨r1, r2, r3⟩ := app_one (k := 2) (v := .slice (some ⟨g1, 0, none⟩) n cap1) hg (own_ge (owns_made (e := 3) (size := 1) (Nat.le_refl wq.heap.size))) D.box
  have hg1 : wq.heap.size ≤ g1 := own_ge h1 g1 rfl
  have hn := owns_set (u := .slice (some ⟨g1, 0, none⟩) n cap1) (k := 2) h1 hbl
  rw [Nat.zero_add, List.nil_append] at hn
  have b2 := r2.setNew hg1 j u
  refine ⟨⟨by rw [cell_of_row _ _ _ _ _ _ r1]; rfl, frozen_of_row _ _ _ _ _ r1⟩, D.but r2 r3, ⟨?_, owns_frozen hn j⟩, D.but b2 ?_, ⟨b2.owns O.1 D.box (by decide), b2.owns O.2.1 D.box (by decide), owns_setCell hn hj u, b2.owns O.2.2.2.1 D.box (by decide), b2.owns O.2.2.2.2.1 D.box (by decide), b2.owns O.2.2.2.2.2 D.box (by decide)⟩⟩
  · rw [List.getElem?_eq_getElem hj]
    exact owns_cell hn (List.getElem?_eq_getElem hj)
  · rw [heap_setCell_other _ _ _ _ (by show W.heap.size ≠ g1; omega)]
    exact r3
theorem covs_cover : ∀ (M : List Nd) (b j : Nat) (y : Nd) (k : Int), M[j]? = some y → k ≠ ((b + j : Nat) : Int) → covs (M.modify j (setOver k)) b = (covs M b).set j (.int .i64 k)
  | [], b, j, y, k, h, _ => by simp at h
  | m :: r, b, 0, y, k, h, hk => by
    simp only [List.modify_zero_cons, covs, List.set_cons_zero]
    congr 2
    show (if k = (b : Int) then -1 else k) = k
    rw [if_neg (by simpa using hk)]
  | m :: r, b, j + 1, y, k, h, hk => by
    rw [List.modify_succ_cons, covs, covs, List.set_cons_succ, covs_cover r (b + 1) j y k (by simpa using h) (by rw [show b + 1 + j = b + (j + 1) by omega]; exact hk)]
theorem seen_cover (M : List Nd) (j : Nat) (k : Int) : bares (M.modify j (setOver k)) = bares M ∧ deads (M.modify j (setOver k)) = deads M ∧ ups (M.modify j (setOver k)) = ups M ∧ devL (M.modify j (setOver k)) 0 = devL M 0 := by
  have e : ∀ {α : Type} (f : Nd → α), (∀ n, f (setOver k n) = f n) → (M.modify j (setOver k)).map f = M.map f := fun f hf => by
    apply List.ext_getElem?
    intro i
    rw [List.getElem?_map, List.getElem?_map, List.getElem?_modify]
    cases M[i]? with
    | none => rfl
    | some x =>
      show Option.map f (some (if j = i then setOver k x else x)) = _
      split
      · show some (f (setOver k x)) = _; rw [hf]; rfl
      · rfl
  refine ⟨?_, e _ (fun _ => rfl), e _ (fun _ => rfl), ?_⟩
  · have hb : ∀ l : List Nd, bares l = (l.map Nd.bare).flatten := fun l => by
      induction l with
      | nil => rfl
      | cons a r ih => rw [bares, ih]; rfl
    rw [hb, hb, e Nd.bare (fun _ => rfl)]
  · exact devL_num _ _ 0 (e numOf (fun _ => rfl))
end Go.Proofs.YtigkdehaepenhaaGreatDoor.V
