/-
  A slice of the reference's copied and stored into its box; a store into the copied nodes. Conditions: none.
  What a change that sets something makes, of the model and of the reference's slices. Conditions: none.
-/
import Derived.Test.YtigkdehaepenhaaGreatDoorVRefDoP
import Derived.Deep.CutBlock
set_option linter.unusedVariables false
namespace Go.Proofs.YtigkdehaepenhaaGreatDoor.V
open Go.RowKit

theorem app_one {W W1 : World} {o : Obj} {r : Option Nat} {b k : Nat} {v : Value} (h1 : (W.alloc o).grownBy W1 r) (hr : ∀ j, r = some j → W.heap.size ≤ j) {arr : Array Value} {T : TypeId} (hb : W.heap[b]? = some (.cells arr T (0, 0))) :
    W1.heap[b]? = some (.cells arr T (0, 0)) ∧ But b W (W1.setCell ⟨b, k, none⟩ v) ∧ (W1.setCell ⟨b, k, none⟩ v).heap[b]? = some (.cells (arr.setIfInBounds k v) T (0, 0)) := by
  have hbl := heap_lt hb
  have s1 : W.heap.size ≤ W1.heap.size := Nat.le_trans (by simp) h1.size
  have keep : ∀ j, j < W.heap.size → W1.heap[j]? = W.heap[j]? := fun j hj => by rw [grown_old h1 hr (by simp; omega) hj, heap_alloc_old _ _ hj]
  have hb2 : W1.heap[b]? = some (.cells arr T (0, 0)) := (keep b hbl).trans hb
  refine ⟨hb2, ⟨h1.os, h1.tape, h1.output, by rw [size_setCell]; omega, ?_⟩, heap_setCell_same _ _ _ _ _ _ hb2⟩
  intro j hj hjb
  rw [heap_setCell_other _ _ _ _ (by exact hjb)]
  exact keep j hj
theorem copyN {W wq w1 : World} {M : List Nd} {L : List It} {v : Rv} {c : Chg} {v1 : Value} {o : Obj} (D : DIn W v c wq) (H : Rs M L v wq)
    (h1 : w1.ownsRow wq.heap.size 62 13 v1 (0 + M.length) ([] ++ bares M)) (hg : (wq.alloc o).grownBy w1 (Value.slice (some ⟨wq.heap.size, 0, none⟩) 0 0).ownBlock) :
    w1.cell? ⟨W.heap.size, 0, none⟩ = some v.n ∧ w1.frozen? ⟨W.heap.size, 0, none⟩ = false ∧ DIn W { v with n := v1 } c (w1.setCell ⟨W.heap.size, 0, none⟩ v1) ∧ Rs M L { v with n := v1 } (w1.setCell ⟨W.heap.size, 0, none⟩ v1) ∧ (∀ j, v1.ownBlock = some j → wq.heap.size ≤ j) := by
  have hbl := heap_lt D.box
  obtain ⟨r1, r2, r3⟩ := app_one (k := 0) (v := v1) hg (own_ge (owns_made (e := 62) (size := 13) (Nat.le_refl wq.heap.size))) D.box
  have hn := owns_set (u := v1) (k := 0) h1 hbl
  rw [Nat.zero_add, List.nil_append] at hn
  exact ⟨by rw [cell_of_row _ _ _ _ _ _ r1]; rfl, frozen_of_row _ _ _ _ _ r1, D.but r2 r3, ⟨hn, r2.owns H.hl D.box (by decide), r2.owns H.hc D.box (by decide), r2.owns H.hd D.box (by decide), r2.owns H.ha D.box (by decide), r2.owns H.hf D.box (by decide)⟩, own_ge h1⟩
theorem copyD {W wq w1 : World} {M : List Nd} {L : List It} {v : Rv} {c : Chg} {v1 : Value} {o : Obj} (D : DIn W v c wq) (H : Rs M L v wq)
    (h1 : w1.ownsRow wq.heap.size 4 1 v1 (0 + M.length) ([] ++ deads M)) (hg : (wq.alloc o).grownBy w1 (Value.slice (some ⟨wq.heap.size, 0, none⟩) 0 0).ownBlock) :
    w1.cell? ⟨W.heap.size, 3, none⟩ = some v.d ∧ w1.frozen? ⟨W.heap.size, 3, none⟩ = false ∧ DIn W { v with d := v1 } c (w1.setCell ⟨W.heap.size, 3, none⟩ v1) ∧ Rs M L { v with d := v1 } (w1.setCell ⟨W.heap.size, 3, none⟩ v1) ∧ (∀ j, v1.ownBlock = some j → wq.heap.size ≤ j) := by
  have hbl := heap_lt D.box
  obtain ⟨r1, r2, r3⟩ := app_one (k := 3) (v := v1) hg (own_ge (owns_made (e := 4) (size := 1) (Nat.le_refl wq.heap.size))) D.box
  have hn := owns_set (u := v1) (k := 3) h1 hbl
  rw [Nat.zero_add, List.nil_append] at hn
  exact ⟨by rw [cell_of_row _ _ _ _ _ _ r1]; rfl, frozen_of_row _ _ _ _ _ r1, D.but r2 r3, ⟨r2.owns H.hn D.box (by decide), r2.owns H.hl D.box (by decide), r2.owns H.hc D.box (by decide), hn, r2.owns H.ha D.box (by decide), r2.owns H.hf D.box (by decide)⟩, own_ge h1⟩
theorem modify_set {M : List Nd} {j : Nat} {n : Nd} {f : Nd → Nd} (h : M[j]? = some n) : M.set j (f n) = M.modify j f := by
  apply List.ext_getElem?
  intro i
  rw [List.getElem?_set, List.getElem?_modify]
  by_cases e : j = i
  · subst e; rw [if_pos rfl, if_pos (List.getElem?_eq_some_iff.1 h).1, h]; simp
  · rw [if_neg e]; cases M[i]? <;> simp [e]
/-- What a node's number list, covers, deads and ups are, where one node is turned. -/
theorem covs_set : ∀ (M : List Nd) (b j : Nat) (n n' : Nd), M[j]? = some n → n'.over = n.over → covs (M.set j n') b = covs M b
  | [], b, j, n, n', h, _ => by simp at h
  | m :: r, b, 0, n, n', h, ho => by simp at h; subst h; simp [covs, cov, ho]
  | m :: r, b, j + 1, n, n', h, ho => by rw [List.set_cons_succ, covs, covs, covs_set r (b + 1) j n n' (by simpa using h) ho]
theorem devL_set : ∀ (M : List Nd) (b j : Nat) (n n' : Nd), M[j]? = some n → n'.ino = n.ino → devL (M.set j n') b = devL M b
  | [], b, j, n, n', h, _ => by simp at h
  | m :: r, b, 0, n, n', h, ho => by simp at h; subst h; simp [devL, ho]
  | m :: r, b, j + 1, n, n', h, ho => by rw [List.set_cons_succ, devL, devL, devL_set r (b + 1) j n n' (by simpa using h) ho]
theorem map_set_same {α : Type} {M : List Nd} {j : Nat} {n n' : Nd} (f : Nd → α) (h : M[j]? = some n) (hf : f n' = f n) : (M.set j n').map f = M.map f := by
  apply List.ext_getElem?
  intro i
  rw [List.getElem?_map, List.getElem?_map, List.getElem?_set]
  by_cases e : j = i
  · subst e; rw [if_pos rfl, if_pos (List.getElem?_eq_some_iff.1 h).1, h]; simp [hf]
  · rw [if_neg e]
/-- A store into one node of the reference's own. -/
theorem setN {W wq : World} {M : List Nd} {L : List It} {v : Rv} {c : Chg} {g cap j k : Nat} {n n' : Nd} {u : Value} (D : DIn W v c wq) (H : Rs M L v wq) (hv : v.n = .slice (some ⟨g, 0, none⟩) M.length cap) (hg : W.heap.size + 1 + 1 < g) (hj : M[j]? = some n) (hk : k < 13) (hs : n'.bare = n.bare.set k u) (ho : n'.over = n.over) (hi : n'.ino = n.ino) (hd : n'.dead = n.dead) (hu : n'.up = n.up) :
    DIn W v c (wq.setCell ⟨g, j * 13 + k, none⟩ u) ∧ Rs (M.set j n') L v (wq.setCell ⟨g, j * 13 + k, none⟩ u) := by
  have hn := H.hn
  rw [hv] at hn
  have hjl := (List.getElem?_eq_some_iff.1 hj).1
  obtain ⟨arr, hga⟩ := owns_type hn (k := g) rfl
  have hb := but_setCell wq g (j * 13 + k) u
  have hne : ∀ {e : TypeId} {size m : Nat} {x : Value} {xs : List Value}, wq.ownsRow 0 e size x m xs → e ≠ 62 → (wq.setCell ⟨g, j * 13 + k, none⟩ u).ownsRow 0 e size x m xs := fun h he => hb.owns h hga he
  refine ⟨⟨(hb.block _ (heap_lt D.box) (by omega)).trans D.box, (hb.block _ (heap_lt D.chg) (by omega)).trans D.chg, (hb.block _ (heap_lt D.res) (by omega)).trans D.res, hb.below D.below (by omega) D.below.size⟩, ?_⟩
  refine ⟨?_, hne H.hl (by decide), ?_, ?_, ?_, ?_⟩
  · rw [hv, List.length_set, ← bares_set M j k n n' u hj hk hs]
    exact owns_setCell hn (by rw [bares_len]; omega) u
  · rw [List.length_set, covs_set M 0 j n n' hj ho]; exact hne H.hc (by decide)
  · rw [List.length_set]; unfold deads; rw [map_set_same _ hj (by rw [hd])]; exact hne H.hd (by decide)
  · rw [List.length_set]; unfold ups; rw [map_set_same _ hj (by rw [hu])]; exact hne H.ha (by decide)
  · rw [devL_set M 0 j n n' hj hi]; exact hne H.hf (by decide)
theorem Rel.set {M : List Nd} {L : List It} {j : Nat} {n n' : Nd} (R : Rel M L) (hj : M[j]? = some n) (he : n'.ents = n.ents) (ho : n'.over = n.over) : Rel (M.set j n') L := by
  refine ⟨fun i x hx => ?_, fun x hx => ?_, by rw [List.length_set]; exact R.at_, by rw [List.length_set]; exact R.id⟩
  · rw [List.getElem?_set] at hx
    split at hx
    · rename_i e
      subst e
      rw [if_pos (List.getElem?_eq_some_iff.1 hj).1] at hx
      obtain rfl := Option.some.inj hx
      rw [he]; exact R.ents j n hj
    · exact R.ents i x hx
  · rcases List.mem_or_eq_of_mem_set hx with q | q
    · exact R.over x q
    · rw [q, ho]; exact R.over n (List.mem_of_getElem? hj)
end Go.Proofs.YtigkdehaepenhaaGreatDoor.V

namespace Go.Proofs.YtigkdehaepenhaaGreatDoor.V
open Go.RowKit Go.BigFrame

theorem list_set_same {α : Type} {l : List α} {i : Nat} {x : α} (h : l[i]? = some x) : l.set i x = l := by
  apply List.ext_getElem?
  intro k
  rw [List.getElem?_set]
  split
  · rename_i e
    subst e
    rw [if_pos (List.getElem?_eq_some_iff.1 h).1, h]
  · rfl
/-- A store into one mark of the reference's own. -/
theorem setD {W wq : World} {M : List Nd} {L : List It} {v : Rv} {c : Chg} {g cap j : Nat} {n : Nd} (D : DIn W v c wq) (H : Rs M L v wq) (hv : v.d = .slice (some ⟨g, 0, none⟩) M.length cap) (hg : W.heap.size + 1 + 1 < g) (hj : M[j]? = some n) :
    DIn W v c (wq.setCell ⟨g, j, none⟩ (.bool true)) ∧ Rs (M.set j { n with dead := true }) L v (wq.setCell ⟨g, j, none⟩ (.bool true)) := by
  have hn := H.hd
  rw [hv] at hn
  have hjl := (List.getElem?_eq_some_iff.1 hj).1
  obtain ⟨arr, hga⟩ := owns_type hn (k := g) rfl
  have hb := but_setCell wq g j (.bool true)
  have hne : ∀ {e : TypeId} {size m : Nat} {x : Value} {xs : List Value}, wq.ownsRow 0 e size x m xs → e ≠ 4 → (wq.setCell ⟨g, j, none⟩ (.bool true)).ownsRow 0 e size x m xs := fun h he => hb.owns h hga he
  refine ⟨⟨(hb.block _ (heap_lt D.box) (by omega)).trans D.box, (hb.block _ (heap_lt D.chg) (by omega)).trans D.chg, (hb.block _ (heap_lt D.res) (by omega)).trans D.res, hb.below D.below (by omega) D.below.size⟩, ?_⟩
  refine ⟨?_, hne H.hl (by decide), ?_, ?_, ?_, ?_⟩
  · rw [List.length_set]
    have e : bares (M.set j { n with dead := true }) = bares M := by
      have := bares_set M j 0 n { n with dead := true } (.int .i64 n.dev) hj (by omega) rfl
      rw [← this]
      have h0 : (bares M)[j * 13 + 0]? = some (.int .i64 n.dev) := (bares_get M j 0 n hj (by omega)).trans rfl
      exact (list_set_same h0)
    rw [e]; exact hne H.hn (by decide)
  · rw [List.length_set, covs_set M 0 j n { n with dead := true } hj rfl]; exact hne H.hc (by decide)
  · rw [hv, List.length_set]
    have e : deads (M.set j { n with dead := true }) = (deads M).set j (.bool true) := by unfold deads; rw [List.map_set]
    rw [e]
    exact owns_setCell hn (by unfold deads; rw [List.length_map]; exact hjl) _
  · rw [List.length_set]; unfold ups; rw [map_set_same (n' := { n with dead := true }) _ hj rfl]; exact hne H.ha (by decide)
  · rw [devL_set M 0 j n { n with dead := true } hj rfl]; exact hne H.hf (by decide)
theorem setNd_over (c : Chg) (n : Nd) : (setNd c n).over = n.over := by
  unfold setNd
  repeat' split
  all_goals rfl
theorem Rs.drew {M : List Nd} {L : List It} {v : Rv} {w : World} (H : Rs M L v w) : Rs M L v w.drew := H.keep (Below.refl _ _).drew
theorem DIn.drew {W : World} {v : Rv} {c : Chg} {w : World} (h : DIn W v c w) : DIn W v c w.drew := h.keep (Below.refl _ _).drew
theorem do_set {M : List Nd} {c : Chg} {j : Nat} {y : Nd} (hw : wrongM M c = 0) (hk : 4 ≤ c.kind) (h7 : c.kind ≠ 7) (ht : c.to = (j : Int)) (hy : M[j]? = some y) : doM M c = M.set j (setNd c y) ∧ doR M c = 0 := by
  unfold doM doR carryM
  rw [if_pos hw, if_pos hw, if_neg (by omega), if_neg (by omega), if_neg (by omega), if_neg (by omega), if_neg h7, ht, Int.toNat_natCast, modify_set hy]
  exact ⟨rfl, rfl⟩

theorem maxI_max (a : Int) : maxI a 0 = max a 0 := by
  show (if a < 0 then (0 : Int) else a) = max a 0
  split <;> omega
end Go.Proofs.YtigkdehaepenhaaGreatDoor.V
