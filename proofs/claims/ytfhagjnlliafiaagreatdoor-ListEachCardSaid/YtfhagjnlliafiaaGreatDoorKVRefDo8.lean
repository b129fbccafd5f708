/-
  A slice of the reference's copied and stored into its box.
  Conditions: each fact's own.
-/
import Derived.Test.YtfhagjnlliafiaaGreatDoorKVRefDoP
import Derived.Deep.CutBlock
import Derived.Test.YtfhagjnlliafiaaGreatDoorKVNames
import Derived.Deep.RegionHeld3
set_option linter.unusedVariables false
set_option maxHeartbeats 8000000
set_option maxRecDepth 100000
namespace Go.Proofs.YtfhagjnlliafiaaGreatDoor.V
open Go.RowKit
theorem app_one {W W1 : World} {o : Obj} {r : Option Nat} {b k : Nat} {v : Value} (h1 : (W.alloc o).grownBy W1 r) (hr : ∀ j, r = some j → W.heap.size ≤ j) {arr : Array Value} {T : TypeId} (hb : W.heap[b]? = some (.cells arr T (0, 0))) :
    W1.heap[b]? = some (.cells arr T (0, 0)) ∧ But b W (W1.setCell ⟨b, k, none⟩ v) ∧ (W1.setCell ⟨b, k, none⟩ v).heap[b]? = some (.cells (arr.setIfInBounds k v) T (0, 0)) := by
  have hbl := heap_lt hb
  have s1 : W.heap.size ≤ W1.heap.size := Nat.le_trans (by simp) h1.size
  have keep : ∀ j, j < W.heap.size → W1.heap[j]? = W.heap[j]? := fun j hj => by rw [grown_old h1 hr (by simp; omega) hj, heap_alloc_old _ _ hj]
  have hb2 : W1.heap[b]? = some (.cells arr T (0, 0)) := (keep b hbl).trans hb
  refine ⟨hb2, ⟨h1.os, h1.tape, h1.output, by rw [size_setCell]; omega, ?_⟩, heap_setCell_same _ _ _ _ _ _ hb2⟩
  intro j hj hjb
  rw [heap_setCell_other _ _ _ _ (by exact hjb)]
  exact keep j hj
theorem copyN {W wq w1 : World} {M : List Nd} {L : List It} {v : Rv} {c : Chg} {v1 : Value} {o : Obj} (D : DIn W v c wq) (H : Rs M L v wq)
    (h1 : w1.ownsRow wq.heap.size 63 13 v1 (0 + M.length) ([] ++ bares M)) (hg : (wq.alloc o).grownBy w1 (Value.slice (some ⟨wq.heap.size, 0, none⟩) 0 0).ownBlock) :
    w1.cell? ⟨W.heap.size, 0, none⟩ = some v.n ∧ w1.frozen? ⟨W.heap.size, 0, none⟩ = false ∧ DIn W { v with n := v1 } c (w1.setCell ⟨W.heap.size, 0, none⟩ v1) ∧ Rs M L { v with n := v1 } (w1.setCell ⟨W.heap.size, 0, none⟩ v1) ∧ (∀ j, v1.ownBlock = some j → wq.heap.size ≤ j) := by
  have hbl := heap_lt D.box
  obtain ⟨r1, r2, r3⟩ := app_one (k := 0) (v := v1) hg (own_ge (owns_made (e := 63) (size := 13) (Nat.le_refl wq.heap.size))) D.box
  have hn := owns_set (u := v1) (k := 0) h1 hbl
  rw [Nat.zero_add, List.nil_append] at hn
  exact ⟨by rw [cell_of_row _ _ _ _ _ _ r1]; rfl, frozen_of_row _ _ _ _ _ r1, D.but r2 r3, ⟨hn, r2.owns H.hl D.box (by decide), r2.owns H.hc D.box (by decide), r2.owns H.hd D.box (by decide), r2.owns H.ha D.box (by decide), r2.owns H.hf D.box (by decide)⟩, own_ge h1⟩
theorem copyD {W wq w1 : World} {M : List Nd} {L : List It} {v : Rv} {c : Chg} {v1 : Value} {o : Obj} (D : DIn W v c wq) (H : Rs M L v wq)
    (h1 : w1.ownsRow wq.heap.size 4 1 v1 (0 + M.length) ([] ++ deads M)) (hg : (wq.alloc o).grownBy w1 (Value.slice (some ⟨wq.heap.size, 0, none⟩) 0 0).ownBlock) :
    w1.cell? ⟨W.heap.size, 3, none⟩ = some v.d ∧ w1.frozen? ⟨W.heap.size, 3, none⟩ = false ∧ DIn W { v with d := v1 } c (w1.setCell ⟨W.heap.size, 3, none⟩ v1) ∧ Rs M L { v with d := v1 } (w1.setCell ⟨W.heap.size, 3, none⟩ v1) ∧ (∀ j, v1.ownBlock = some j → wq.heap.size ≤ j) := by
  have hbl := heap_lt D.box
  obtain ⟨r1, r2, r3⟩ := app_one (k := 3) (v := v1) hg (own_ge (owns_made (e := 4) (size := 1) (Nat.le_refl wq.heap.size))) D.box
  have hn := owns_set (u := v1) (k := 3) h1 hbl
  rw [Nat.zero_add, List.nil_append] at hn
  exact ⟨by rw [cell_of_row _ _ _ _ _ _ r1]; rfl, frozen_of_row _ _ _ _ _ r1, D.but r2 r3, ⟨r2.owns H.hn D.box (by decide), r2.owns H.hl D.box (by decide), r2.owns H.hc D.box (by decide), hn, r2.owns H.ha D.box (by decide), r2.owns H.hf D.box (by decide)⟩, own_ge h1⟩
theorem modify_set {M : List Nd} {j : Nat} {n : Nd} {f : Nd → Nd} (h : M[j]? = some n) : M.set j (f n) = M.modify j f := by
  apply List.ext_getElem?
  intro i
  rw [List.getElem?_set, List.getElem?_modify]
  by_cases e : j = i
  · subst e; rw [if_pos rfl, if_pos (List.getElem?_eq_some_iff.1 h).1, h]; simp
  · rw [if_neg e]; cases M[i]? <;> simp [e]
theorem covs_set : ∀ (M : List Nd) (b j : Nat) (n n' : Nd), M[j]? = some n → n'.over = n.over → covs (M.set j n') b = covs M b
  | [], b, j, n, n', h, _ => by simp at h
  | m :: r, b, 0, n, n', h, ho => by simp at h; subst h; simp [covs, cov, ho]
  | m :: r, b, j + 1, n, n', h, ho => by rw [List.set_cons_succ, covs, covs, covs_set r (b + 1) j n n' (by simpa using h) ho]
theorem devL_set : ∀ (M : List Nd) (b j : Nat) (n n' : Nd), M[j]? = some n → n'.ino = n.ino → devL (M.set j n') b = devL M b
  | [], b, j, n, n', h, _ => by simp at h
  | m :: r, b, 0, n, n', h, ho => by simp at h; subst h; simp [devL, ho]
  | m :: r, b, j + 1, n, n', h, ho => by rw [List.set_cons_succ, devL, devL, devL_set r (b + 1) j n n' (by simpa using h) ho]
theorem map_set_same {α : Type} {M : List Nd} {j : Nat} {n n' : Nd} (f : Nd → α) (h : M[j]? = some n) (hf : f n' = f n) : (M.set j n').map f = M.map f := by
  apply List.ext_getElem?
  intro i
  rw [List.getElem?_map, List.getElem?_map, List.getElem?_set]
  by_cases e : j = i
  · subst e; rw [if_pos rfl, if_pos (List.getElem?_eq_some_iff.1 h).1, h]; simp [hf]
  · rw [if_neg e]
theorem setN {W wq : World} {M : List Nd} {L : List It} {v : Rv} {c : Chg} {g cap j k : Nat} {n n' : Nd} {u : Value} (D : DIn W v c wq) (H : Rs M L v wq) (hv : v.n = .slice (some ⟨g, 0, none⟩) M.length cap) (hg : W.heap.size + 1 + 1 < g) (hj : M[j]? = some n) (hk : k < 13) (hs : n'.bare = n.bare.set k u) (ho : n'.over = n.over) (hi : n'.ino = n.ino) (hd : n'.dead = n.dead) (hu : n'.up = n.up) :
    DIn W v c (wq.setCell ⟨g, j * 13 + k, none⟩ u) ∧ Rs (M.set j n') L v (wq.setCell ⟨g, j * 13 + k, none⟩ u) := by
  have hn := H.hn
  rw [hv] at hn
  have hjl := (List.getElem?_eq_some_iff.1 hj).1
  obtain ⟨arr, hga⟩ := owns_type hn (k := g) rfl
  have hb := but_setCell wq g (j * 13 + k) u
  have hne : ∀ {e : TypeId} {size m : Nat} {x : Value} {xs : List Value}, wq.ownsRow 0 e size x m xs → e ≠ 63 → (wq.setCell ⟨g, j * 13 + k, none⟩ u).ownsRow 0 e size x m xs := fun h he => hb.owns h hga he
  refine ⟨⟨(hb.block _ (heap_lt D.box) (by omega)).trans D.box, (hb.block _ (heap_lt D.chg) (by omega)).trans D.chg, (hb.block _ (heap_lt D.res) (by omega)).trans D.res, hb.below D.below (by omega) D.below.size⟩, ?_⟩
  refine ⟨?_, hne H.hl (by decide), ?_, ?_, ?_, ?_⟩
  · rw [hv, List.length_set, ← bares_set M j k n n' u hj hk hs]
    exact owns_setCell hn (by rw [bares_len]; omega) u
  · rw [List.length_set, covs_set M 0 j n n' hj ho]; exact hne H.hc (by decide)
  · rw [List.length_set]; unfold deads; rw [map_set_same _ hj (by rw [hd])]; exact hne H.hd (by decide)
  · rw [List.length_set]; unfold ups; rw [map_set_same _ hj (by rw [hu])]; exact hne H.ha (by decide)
  · rw [devL_set M 0 j n n' hj hi]; exact hne H.hf (by decide)
theorem Rel.set {M : List Nd} {L : List It} {j : Nat} {n n' : Nd} (R : Rel M L) (hj : M[j]? = some n) (he : n'.ents = n.ents) (ho : n'.over = n.over) : Rel (M.set j n') L := by
  refine ⟨fun i x hx => ?_, fun x hx => ?_, by rw [List.length_set]; exact R.at_, by rw [List.length_set]; exact R.id⟩
  · rw [List.getElem?_set] at hx
    split at hx
    · rename_i e
      subst e
      rw [if_pos (List.getElem?_eq_some_iff.1 hj).1] at hx
      obtain rfl := Option.some.inj hx
      rw [he]; exact R.ents j n hj
    · exact R.ents i x hx
  · rcases List.mem_or_eq_of_mem_set hx with q | q
    · exact R.over x q
    · rw [q, ho]; exact R.over n (List.mem_of_getElem? hj)
end Go.Proofs.YtfhagjnlliafiaaGreatDoor.V
namespace Go.Proofs.YtfhagjnlliafiaaGreatDoor.V
open Go.RowKit Go.BigFrame
theorem list_set_same {α : Type} {l : List α} {i : Nat} {x : α} (h : l[i]? = some x) : l.set i x = l := by
  apply List.ext_getElem?
  intro k
  rw [List.getElem?_set]
  split
  · rename_i e
    subst e
    rw [if_pos (List.getElem?_eq_some_iff.1 h).1, h]
  · rfl
theorem setD {W wq : World} {M : List Nd} {L : List It} {v : Rv} {c : Chg} {g cap j : Nat} {n : Nd} (D : DIn W v c wq) (H : Rs M L v wq) (hv : v.d = .slice (some ⟨g, 0, none⟩) M.length cap) (hg : W.heap.size + 1 + 1 < g) (hj : M[j]? = some n) :
    DIn W v c (wq.setCell ⟨g, j, none⟩ (.bool true)) ∧ Rs (M.set j { n with dead := true }) L v (wq.setCell ⟨g, j, none⟩ (.bool true)) := by
  have hn := H.hd
  rw [hv] at hn
  have hjl := (List.getElem?_eq_some_iff.1 hj).1
  obtain ⟨arr, hga⟩ := owns_type hn (k := g) rfl
  have hb := but_setCell wq g j (.bool true)
  have hne : ∀ {e : TypeId} {size m : Nat} {x : Value} {xs : List Value}, wq.ownsRow 0 e size x m xs → e ≠ 4 → (wq.setCell ⟨g, j, none⟩ (.bool true)).ownsRow 0 e size x m xs := fun h he => hb.owns h hga he
  refine ⟨⟨(hb.block _ (heap_lt D.box) (by omega)).trans D.box, (hb.block _ (heap_lt D.chg) (by omega)).trans D.chg, (hb.block _ (heap_lt D.res) (by omega)).trans D.res, hb.below D.below (by omega) D.below.size⟩, ?_⟩
  refine ⟨?_, hne H.hl (by decide), ?_, ?_, ?_, ?_⟩
  · rw [List.length_set]
    have e : bares (M.set j { n with dead := true }) = bares M := by
      have := bares_set M j 0 n { n with dead := true } (.int .i64 n.dev) hj (by omega) rfl
      rw [← this]
      have h0 : (bares M)[j * 13 + 0]? = some (.int .i64 n.dev) := (bares_get M j 0 n hj (by omega)).trans rfl
      exact (list_set_same h0)
    rw [e]; exact hne H.hn (by decide)
  · rw [List.length_set, covs_set M 0 j n { n with dead := true } hj rfl]; exact hne H.hc (by decide)
  · rw [hv, List.length_set]
    have e : deads (M.set j { n with dead := true }) = (deads M).set j (.bool true) := by unfold deads; rw [List.map_set]
    rw [e]
    exact owns_setCell hn (by unfold deads; rw [List.length_map]; exact hjl) _
  · rw [List.length_set]; unfold ups; rw [map_set_same (n' := { n with dead := true }) _ hj rfl]; exact hne H.ha (by decide)
  · rw [devL_set M 0 j n { n with dead := true } hj rfl]; exact hne H.hf (by decide)
theorem setNd_over (c : Chg) (n : Nd) : (setNd c n).over = n.over := by
  unfold setNd
  repeat' split
  all_goals rfl
theorem Rs.drew {M : List Nd} {L : List It} {v : Rv} {w : World} (H : Rs M L v w) : Rs M L v w.drew := H.keep (Below.refl _ _).drew
theorem DIn.drew {W : World} {v : Rv} {c : Chg} {w : World} (h : DIn W v c w) : DIn W v c w.drew := h.keep (Below.refl _ _).drew
theorem do_set {M : List Nd} {c : Chg} {j : Nat} {y : Nd} (hw : wrongM M c = 0) (hk : 4 ≤ c.kind) (h7 : c.kind ≠ 7) (ht : c.to = (j : Int)) (hy : M[j]? = some y) : doM M c = M.set j (setNd c y) ∧ doR M c = 0 := by
  unfold doM doR carryM
  rw [if_pos hw, if_pos hw, if_neg (by omega), if_neg (by omega), if_neg (by omega), if_neg (by omega), if_neg h7, ht, Int.toNat_natCast, modify_set hy]
  exact ⟨rfl, rfl⟩
theorem maxI_max (a : Int) : maxI a 0 = max a 0 := by
  show (if a < 0 then (0 : Int) else a) = max a 0
  split <;> omega
end Go.Proofs.YtfhagjnlliafiaaGreatDoor.V
namespace Go.Proofs.YtfhagjnlliafiaaGreatDoor.V
open Go.RowKit
def seenR (n : Nd) : List Value × Int × Bool × Int × Int := (n.bare, n.over, n.dead, n.up, n.ino)
theorem bares_seen : ∀ (a b : List Nd), a.map seenR = b.map seenR → bares a = bares b
  | [], [], _ => rfl
  | [], y :: r, h => by simp at h
  | x :: r, [], h => by simp at h
  | x :: r, y :: t, h => by
    simp only [List.map_cons, List.cons.injEq] at h
    rw [bares, bares, bares_seen r t h.2, show x.bare = y.bare from congrArg (·.1) h.1]
theorem covs_seen : ∀ (a b : List Nd) (k : Nat), a.map seenR = b.map seenR → covs a k = covs b k
  | [], [], _, _ => rfl
  | [], y :: r, _, h => by simp at h
  | x :: r, [], _, h => by simp at h
  | x :: r, y :: t, k, h => by
    simp only [List.map_cons, List.cons.injEq] at h
    rw [covs, covs, covs_seen r t (k + 1) h.2]
    unfold cov
    rw [show x.over = y.over from congrArg (·.2.1) h.1]
theorem devL_seen : ∀ (a b : List Nd) (k : Nat), a.map seenR = b.map seenR → devL a k = devL b k
  | [], [], _, _ => rfl
  | [], y :: r, _, h => by simp at h
  | x :: r, [], _, h => by simp at h
  | x :: r, y :: t, k, h => by
    simp only [List.map_cons, List.cons.injEq] at h
    rw [devL, devL, devL_seen r t (k + 1) h.2, show x.ino = y.ino from congrArg (·.2.2.2.2) h.1]
theorem deads_seen (a b : List Nd) (h : a.map seenR = b.map seenR) : deads a = deads b := by
  have e : ∀ l : List Nd, deads l = (l.map seenR).map fun s => Value.bool s.2.2.1 := fun l => by unfold deads; rw [List.map_map]; rfl
  rw [e a, e b, h]
theorem ups_seen (a b : List Nd) (h : a.map seenR = b.map seenR) : ups a = ups b := by
  have e : ∀ l : List Nd, ups l = (l.map seenR).map fun s => Value.int .i64 s.2.2.2.1 := fun l => by unfold ups; rw [List.map_map]; rfl
  rw [e a, e b, h]
theorem Rs.seen {M M' : List Nd} {L : List It} {v : Rv} {w : World} (H : Rs M L v w) (h : M'.map seenR = M.map seenR) : Rs M' L v w := by
  have hl : M'.length = M.length := by have := congrArg List.length h; simpa using this
  refine ⟨?_, H.hl, ?_, ?_, ?_, ?_⟩
  · rw [hl, bares_seen M' M h]; exact H.hn
  · rw [hl, covs_seen M' M 0 h]; exact H.hc
  · rw [hl, deads_seen M' M h]; exact H.hd
  · rw [hl, ups_seen M' M h]; exact H.ha
  · rw [devL_seen M' M 0 h]; exact H.hf
theorem seen_modify {M : List Nd} {i : Nat} {f : Nd → Nd} (hf : ∀ n, seenR (f n) = seenR n) : (M.modify i f).map seenR = M.map seenR := by
  apply List.ext_getElem?
  intro j
  rw [List.getElem?_map, List.getElem?_map, List.getElem?_modify]
  cases M[j]? with
  | none => rfl
  | some x =>
    show Option.map seenR (some (if i = j then f x else x)) = _
    split
    · show some (seenR (f x)) = _; rw [hf]; rfl
    · rfl
theorem seen_ent (s : ByteArray) (id : Int) (n : Nd) : seenR (addEnt s id n) = seenR n := rfl
theorem seen_links (n : Nd) : seenR (moreLinks n) = seenR n := rfl
theorem Rel.app {M : List Nd} {L : List It} {n : Nd} (R : Rel M L) (he : n.ents = []) (ho : 0 ≤ n.over) : Rel (M ++ [n]) L := by
  refine ⟨fun i x hx => ?_, fun x hx => ?_, fun e he => ?_, fun e he => ?_⟩
  · rcases Nat.lt_or_ge i M.length with q | q
    · rw [List.getElem?_append_left q] at hx
      exact R.ents i x hx
    · rw [List.getElem?_append_right q] at hx
      have hi : i - M.length = 0 := by
        have := (List.getElem?_eq_some_iff.1 hx).1
        simp at this
        omega
      rw [hi] at hx
      obtain rfl : n = x := by simpa using hx
      rw [he, List.filter_eq_nil_iff.2 (fun e hm => by have := (R.at_ e hm).2; simp; omega)]
      rfl
  · rcases List.mem_append.1 hx with q | q
    · exact R.over x q
    · rw [List.mem_singleton.1 q]; exact ho
  · have := R.at_ e he; rw [List.length_append]; simp; omega
  · have := R.id e he; rw [List.length_append]; simp; omega
theorem Rel.enter {M : List Nd} {L : List It} {i : Nat} {s : ByteArray} {id : Int} (R : Rel M L) (hi : i < M.length) (h0 : 0 ≤ id) (h1 : id < (M.length : Int)) : Rel (M.modify i (addEnt s id)) (L ++ [⟨(i : Int), s, id⟩]) := by
  refine ⟨fun j x hx => ?_, fun x hx => ?_, fun e he => ?_, fun e he => ?_⟩
  · rw [List.getElem?_modify] at hx
    obtain ⟨y, hy, hxy⟩ := Option.map_eq_some_iff.1 hx
    rw [List.filter_append, List.map_append, ← R.ents j y hy]
    by_cases e : i = j
    · subst e
      rw [if_pos rfl] at hxy
      subst hxy
      simp [addEnt]
    · rw [if_neg e] at hxy
      subst hxy
      rw [List.filter_cons_of_neg (by simp; omega)]
      simp
  · obtain ⟨j, hj⟩ := List.mem_iff_getElem?.1 hx
    rw [List.getElem?_modify] at hj
    obtain ⟨y, hy, hxy⟩ := Option.map_eq_some_iff.1 hj
    have := R.over y (List.mem_of_getElem? hy)
    by_cases e : i = j
    · rw [if_pos e] at hxy; subst hxy; exact this
    · rw [if_neg e] at hxy; subst hxy; exact this
  · rw [List.length_modify]
    rcases List.mem_append.1 he with q | q
    · exact R.at_ e q
    · rw [List.mem_singleton.1 q]; exact ⟨by show (0 : Int) ≤ (i : Int); omega, by show (i : Int) < _; omega⟩
  · rw [List.length_modify]
    rcases List.mem_append.1 he with q | q
    · exact R.id e q
    · rw [List.mem_singleton.1 q]; exact ⟨h0, h1⟩
theorem Rel.same {M : List Nd} {L : List It} {i : Nat} {f : Nd → Nd} (R : Rel M L) (hf : ∀ n, (f n).ents = n.ents ∧ (0 ≤ n.over → 0 ≤ (f n).over)) : Rel (M.modify i f) L := by
  refine ⟨fun j x hx => ?_, fun x hx => ?_, by rw [List.length_modify]; exact R.at_, by rw [List.length_modify]; exact R.id⟩
  · rw [List.getElem?_modify] at hx
    obtain ⟨y, hy, hxy⟩ := Option.map_eq_some_iff.1 hx
    rw [← R.ents j y hy]
    by_cases e : i = j
    · rw [if_pos e] at hxy; subst hxy; exact (hf y).1
    · rw [if_neg e] at hxy; subst hxy; rfl
  · obtain ⟨j, hj⟩ := List.mem_iff_getElem?.1 hx
    rw [List.getElem?_modify] at hj
    obtain ⟨y, hy, hxy⟩ := Option.map_eq_some_iff.1 hj
    have := R.over y (List.mem_of_getElem? hy)
    by_cases e : i = j
    · rw [if_pos e] at hxy; subst hxy; exact (hf y).2 this
    · rw [if_neg e] at hxy; subst hxy; exact this
theorem Rel.built {M : List Nd} {L : List It} {i : Nat} {s : ByteArray} {n : Nd} {d : Int} (R : Rel M L) (hi : i < M.length) (he : n.ents = []) : Rel (builtM M i s n d) (L ++ [⟨(i : Int), s, (M.length : Int)⟩]) := by
  unfold builtM
  refine Rel.same ?_ (fun _ => ⟨rfl, fun h => h⟩)
  exact (R.app (n := addedNd n d M) he (by show (0 : Int) ≤ (M.length : Int); omega)).enter (by rw [List.length_append]; omega) (by omega) (by rw [List.length_append]; simp; omega)
theorem seen_built {M : List Nd} {i : Nat} {s : ByteArray} {n : Nd} {d : Int} : (builtM M i s n d).map seenR = (M ++ [addedNd n d M]).map seenR := by
  unfold builtM
  rw [seen_modify seen_links, seen_modify (seen_ent _ _)]
theorem Rel.shared {M : List Nd} {L : List It} {i k : Nat} {s : ByteArray} {id : Int} (R : Rel M L) (hi : i < M.length) (h0 : 0 ≤ id) (h1 : id < (M.length : Int)) : Rel ((M.modify i (addEnt s id)).modify k moreLinks) (L ++ [⟨(i : Int), s, id⟩]) :=
  (R.enter hi h0 h1).same (fun _ => ⟨rfl, fun h => h⟩)
theorem seen_shared {M : List Nd} {i k : Nat} {s : ByteArray} {id : Int} : ((M.modify i (addEnt s id)).modify k moreLinks).map seenR = M.map seenR := by
  rw [seen_modify seen_links, seen_modify (seen_ent _ _)]
theorem Rel.covered {M : List Nd} {L : List It} {i : Nat} {m up : Int} (R : Rel M L) : Rel (coveredM M i m up) L := by
  unfold coveredM
  refine Rel.same (R.app (n := addedNd (dirNd (m % 4096) up) _ M) rfl (by show (0 : Int) ≤ (M.length : Int); omega)) (fun n => ⟨rfl, fun _ => by show (0 : Int) ≤ (M.length : Int); omega⟩)
theorem Rs.of_add {M : List Nd} {L : List It} {v : Rv} {w : World} {n : Nd} {d : Int} (hd : (addedNd n d M).dead = false) (h1 : cntD d M ≠ 0)
    (H : ROwn w v (M.length + 1) (bares M ++ (addedNd n d M).bare) L.length (itCells L) (M.length + 1) (covs M 0 ++ [.int .i64 (-1)]) (M.length + 1) (deads M ++ [.bool false]) (M.length + 1) (ups M ++ [.int .i64 n.up]) (devL M 0).length (ints (devL M 0))) : Rs (M ++ [addedNd n d M]) L v w := by
  obtain ⟨a, b, c, e, f, g⟩ := H
  have hl : (M ++ [addedNd n d M]).length = M.length + 1 := by simp
  have hdv : devL (M ++ [addedNd n d M]) 0 = devL M 0 := by
    rw [devL_append]
    have : (addedNd n d M).ino ≠ 1 := by show 1 + cntD d M ≠ 1; omega
    simp [devL, this]
  refine ⟨?_, b, ?_, ?_, ?_, ?_⟩
  · rw [hl, bares_append, bares_one]; exact a
  · rw [hl, covs_append]
    have : covs [addedNd n d M] (0 + M.length) = [.int .i64 (-1)] := by
      rw [Nat.zero_add, covs, covs]
      unfold cov
      rw [if_pos (show (addedNd n d M).over = (M.length : Int) from rfl)]
    rw [this]; exact c
  · rw [hl]; unfold deads; rw [List.map_append]; show w.ownsRow 0 _ 1 v.d _ (_ ++ [.bool (addedNd n d M).dead]); rw [hd]; exact e
  · rw [hl]; unfold ups; rw [List.map_append]; exact f
  · rw [hdv]; exact g
theorem cntD_ne {M : List Nd} {i : Nat} {x : Nd} (h : M[i]? = some x) : cntD x.dev M ≠ 0 := by have := cntD_pos h rfl; omega
end Go.Proofs.YtfhagjnlliafiaaGreatDoor.V
namespace Go.Proofs.YtfhagjnlliafiaaGreatDoor.V
open Go.RowKit
section
variable {P : Program} {ops : Array Oper} {Q : Exit → Act → World → Prop} {md : Region.Mode} {S : World → Prop} {z : Nat}
def Till (P : Program) (md : Region.Mode) (ops : Array Oper) (Q : Exit → Act → World → Prop) (S : World → Prop) (z : Nat) : Nat → Array Bool → Act → World → Prop
  | 0 => fun up a w => Region.ready md ops up = [] ∧ Q .normal a w
  | n + 1 => fun up a w => (Region.ready md ops up = [] → Q .normal a w) ∧ ∀ i, i ∈ Region.ready md ops up → wpOp P ops Q i (fun a' w' => (i ≠ z → S w') ∧ Till P md ops Q S z n (up.setIfInBounds i true) a' w') a w
theorem Till.any : ∀ {n : Nat} {up : Array Bool} {a : Act} {w : World}, Till P md ops Q S z n up a w → wpAny P md ops Q n up a w
  | 0, _, _, _, h => h
  | n + 1, _, _, _, h => ⟨h.1, fun i hi => wpOp_mono (fun _ _ q => Till.any q.2) (h.2 i hi)⟩
theorem Till.region {id : Nat} {a : Act} {w : World} (hm : P.follows .mixedOrders = true) (hS : S w.drew) (h : S w.drew → Till P .any ops Q S z ops.size (Array.replicate ops.size false) a w.drew) : (Code.region id ops true).wp P Q a w :=
  wp_region_any hm (Till.any (h hS))
def waitsB (md : Region.Mode) (ops : Array Oper) (z i : Nat) : Bool := match ops[z]? with
  | some o => o.after.any fun e => Region.binds md e && e.on == i
  | none => false
theorem waits_not {i j : Nat} {up : Array Bool} (hz : waitsB md ops z i = true) (hi : i ∈ Region.ready md ops up) (hj : j ∈ Region.ready md ops up) : j ≠ z := by
  rintro rfl
  obtain ⟨_, o, ho, hall⟩ := mem_ready.1 hj
  unfold waitsB at hz
  rw [ho] at hz
  obtain ⟨e, he, hb⟩ := Array.any_eq_true'.1 hz
  simp only [Bool.and_eq_true, beq_iff_eq] at hb
  have h1 := hall e he hb.1
  rw [hb.2] at h1
  have h0 := (mem_ready.1 hi).1
  rcases Nat.lt_or_ge i up.size with q | q
  · simp [q] at h0 h1
    rw [h0] at h1
    cases h1
  · simp [Array.getElem?_eq_none q] at h1
theorem Till.front {i : Nat} {oi : Oper} {v : Value} (hi : ops[i]? = some oi) (hsel : ∀ (j : Nat) (o : Oper) cs b, ops[j]? = some o → o.op ≠ .select cs b) (hQ : ∀ c a w, Q (.panic c) (a.put oi.dst v) w → Q (.panic c) a w) (hz : waitsB md ops z i = true) :
    ∀ (n : Nat) (up : Array Bool) (a : Act) (w : World), (∀ j oj, ops[j]? = some oj → j ≠ i → up.getD j true = false → (∀ e ∈ oj.after, Region.binds md e = true → e.on ≠ i) → oi.apart ops oj = true) → i ∈ Region.ready md ops up → YieldsIf P ops S oi v a → S w →
      Till P md ops Q S z n (up.setIfInBounds i true) (a.put oi.dst v) w → Till P md ops Q S z (n + 1) up a w := by
  have one : ∀ {K : Act → World → Prop} {a : Act} {w : World}, YieldsIf P ops S oi v a → S w → K (a.put oi.dst v) w → wpOp P ops Q i K a w := fun hy hS hK => hy.wpOp hi hS hK
  have none : ∀ {up : Array Bool} {C : Prop}, i ∈ Region.ready md ops up → Region.ready md ops up = [] → C := fun hr h => by rw [h] at hr; cases hr
  intro n
  induction n with
  | zero =>
    intro up a w _ hr hy hS T
    refine ⟨none hr, fun j hj => ?_⟩
    rcases Classical.em (j = i) with e | e
    · rw [e]; exact one hy hS ⟨fun _ => hS, T⟩
    · have m := ready_mono (i := i) hj e
      rw [T.1] at m
      cases m
  | succ n ih =>
    intro up a w hfree hr hy hS T
    refine ⟨none hr, fun j hj => ?_⟩
    rcases Classical.em (j = i) with e | e
    · rw [e]; exact one hy hS ⟨fun _ => hS, T⟩
    · have hjz : j ≠ z := waits_not hz hr hj
      obtain ⟨hup, oj, hoj, hall⟩ := mem_ready.1 hj
      have hun : ∀ d ∈ oj.after, Region.binds md d = true → d.on ≠ i := fun d hd hb q => by
        have h1 := hall d hd hb
        rw [q] at h1
        have h0 := (mem_ready.1 hr).1
        rcases Nat.lt_or_ge i up.size with g | g
        · simp [g] at h0 h1
          rw [h0] at h1
          cases h1
        · simp [Array.getElem?_eq_none g] at h1
      have step := wpOp_putIf hoj (hfree j oj hoj e hup hun) (fun cs b => hsel i oi cs b hi) (fun cs b => hsel j oj cs b hoj) hQ hy (T.2 j (ready_mono hj e))
      refine wpOp_mono (fun a' w' q => ⟨fun _ => q.2.1 hjz, ih _ a' w' (fun k ok hk hki hku hkn => hfree k ok hk hki ?_ hkn) (ready_mono hr (Ne.symm e)) q.1 (q.2.1 hjz) ?_⟩) step
      · rcases Classical.em (j = k) with g | g
        · rw [← g]; exact hup
        · rw [getD_set_ne true g] at hku; exact hku
      · rw [Array.setIfInBounds_comm _ _ e]
        exact q.2.2
theorem Till.take {i : Nat} {oi : Oper} {v : Value} {n : Nat} {up : Array Bool} {a : Act} {w : World} (hi : ops[i]? = some oi) (hs : Region.noSelect ops = true) (hf : Region.free md ops up i = true) (hr : (Region.ready md ops up).contains i = true) (hz : waitsB md ops z i = true)
    (hQ : ∀ c a w, Q (.panic c) (a.put oi.dst v) w → Q (.panic c) a w) (hy : YieldsIf P ops S oi v a) (hS : S w) (h : Till P md ops Q S z n (up.setIfInBounds i true) (a.put oi.dst v) w) : Till P md ops Q S z (n + 1) up a w :=
  Till.front hi (Region.noSelect_spec hs) hQ hz n up a w (Region.free_spec hi hf) (by simpa using hr) hy hS h
theorem Till.tz (i : Nat) {oi : Oper} (v : Value) {n : Nat} {up : Array Bool} {a : Act} {w : World} (hi : ops[i]? = some oi) (hy : ∀ w0, S w0 → (execOp a.eval oi).run P w0 = .ok (.value v) w0) (h : Till P md ops Q S z n (up.setIfInBounds i true) (a.put oi.dst v) w) (hw : Region.wanted oi (yielded ops a.tmps) = true := by rfl) (hs : Region.noSelect ops = true := by kernel_rfl) (hf : Region.free md ops up i = true := by kernel_rfl) (hr : (Region.ready md ops up).contains i = true := by kernel_rfl) (hz : waitsB md ops z i = true := by kernel_rfl)
    (hQ : ∀ c a w, Q (.panic c) (a.put oi.dst v) w → Q (.panic c) a w := by exact fun _ _ _ h => h) (hS : S w := by assumption) : Till P md ops Q S z (n + 1) up a w := Till.take hi hs hf hr hz hQ (Or.inl ⟨hw, hy⟩) hS h
theorem Till.next {i : Nat} {o : Oper} {n : Nat} {up : Array Bool} {a : Act} {w : World} (hr : Region.ready md ops up = [i]) (ho : ops[i]? = some o)
    (h : ∀ K : Act → World → Prop, Shut (∀ a w, (i ≠ z → S w) → Till P md ops Q S z n (up.setIfInBounds i true) a w → K a w) → if Region.wanted o (yielded ops a.tmps) = true then Oper.wp P o a w K Q else K (a.put o.dst undef) w) : Till P md ops Q S z (n + 1) up a w := by
  refine ⟨fun e => absurd e (by rw [hr]; exact List.cons_ne_nil _ _), fun j hj => ?_⟩
  rw [hr] at hj
  obtain rfl := List.mem_singleton.1 hj
  exact wpOp_step ho fun K hK => h K (fun a w hS hT => hK a w ⟨hS, hT⟩)
theorem Till.tn (i : Nat) {o : Oper} {n : Nat} {up : Array Bool} {a : Act} {w : World} (ho : ops[i]? = some o)
    (h : ∀ K : Act → World → Prop, Shut (∀ a w, (i ≠ z → S w) → Till P md ops Q S z n (up.setIfInBounds i true) a w → K a w) → if Region.wanted o (yielded ops a.tmps) = true then Oper.wp P o a w K Q else K (a.put o.dst undef) w) (hr : Region.ready md ops up = [i] := by kernel_rfl) : Till P md ops Q S z (n + 1) up a w := Till.next hr ho h
theorem Till.done {n : Nat} {up : Array Bool} {a : Act} {w : World} (hr : Region.ready md ops up = []) (h : Q .normal a w) : Till P md ops Q S z n up a w := by
  match n with
  | 0 => exact And.intro hr h
  | n + 1 =>
    refine ⟨fun _ => h, fun i hi => ?_⟩
    rw [hr] at hi
    cases hi
end
end Go.Proofs.YtfhagjnlliafiaaGreatDoor.V
namespace Go.Proofs.YtfhagjnlliafiaaGreatDoor.V
open Go.RowKit
theorem infoItem : (Tryz.prog.info? 94).map (fun i => (i.zero, i.size, i.bytes)) = some (some (.agg #[.int .i64 0, .string ⟨#[]⟩, .int .i64 0]), 3, 32) := by kernel_rfl
def itemC (a : Int) (s : ByteArray) (id : Int) : List Value := [.int .i64 a, .string s, .int .i64 id]
theorem itemC_one (a : Int) (s : ByteArray) (id : Int) : ∀ u ∈ itemC a s id, u.oneCell' = true := fun u hu => by
  unfold itemC at hu
  simp at hu
  rcases hu with rfl | rfl | rfl <;> rfl
theorem itCells_more (L : List It) (a : Int) (s : ByteArray) (id : Int) : itCells (L ++ [⟨a, s, id⟩]) = itCells L ++ itemC a s id := by rw [itCells_append]; rfl
def Lng (W wr : World) (v : Rv) (c : Chg) (mL : Nat) (xs : List Value) (wx : World) : Prop :=
  ∃ g cap, DIn W { v with l := .slice (some ⟨g, 0, none⟩) mL cap } c wx ∧ wx.ownsRow 0 94 3 (.slice (some ⟨g, 0, none⟩) mL cap) mL xs ∧ But W.heap.size wr wx
theorem lng_a {W wr w1 w2 : World} {v : Rv} {c : Chg} {n : Nat} {xs ys : List Value} {v1 : Value} {g cap : Nat} {o : Obj} (H : DIn W v c wr) (hg1 : (wr.alloc (.cells #[] 94)).grownBy w1 (Value.slice (some ⟨wr.heap.size, 0, none⟩) 0 0).ownBlock)
    (h1 : w1.ownsRow wr.heap.size 94 3 v1 (0 + n) ([] ++ xs)) (h2 : w2.ownsRow wr.heap.size 94 3 (.slice (some ⟨g, 0, none⟩) (0 + n + 1) cap) (0 + n + 1) ([] ++ xs ++ ys)) (hg2 : (w1.alloc o).grownBy w2 v1.ownBlock) :
    w2.cell? ⟨W.heap.size, 1, none⟩ = some v.l ∧ w2.frozen? ⟨W.heap.size, 1, none⟩ = false ∧ Lng W wr v c (n + 1) (xs ++ ys) (w2.setCell ⟨W.heap.size, 1, none⟩ (.slice (some ⟨g, 0, none⟩) (n + 1) cap)) := by
  obtain ⟨r1, r2, r3⟩ := app_two (k := 1) (v := .slice (some ⟨g, 0, none⟩) (n + 1) cap) hg1 hg2 (own_ge (owns_made (e := 94) (size := 3) (Nat.le_refl wr.heap.size))) (own_ge h1) H.box
  have hbl := heap_lt H.box
  rw [Nat.zero_add, List.nil_append] at h2
  exact ⟨by rw [cell_of_row _ _ _ _ _ _ r1]; rfl, frozen_of_row _ _ _ _ _ r1, g, cap, H.but r2 r3, owns_set h2 hbl, r2⟩
theorem lng_b {W wr w1 w2 : World} {v : Rv} {c : Chg} {n : Nat} {xs ys : List Value} {v1 d1 : Value} {g cap : Nat} {o o' : Obj} (H : DIn W v c wr) (hg1 : ((wr.alloc o).alloc o').grownBy w1 d1.ownBlock) (hd : ∀ j, d1.ownBlock = some j → wr.heap.size ≤ j)
    (h1 : w1.ownsRow wr.heap.size 94 3 v1 (0 + n) ([] ++ xs)) (h2 : w2.ownsRow wr.heap.size 94 3 (.slice (some ⟨g, 0, none⟩) (0 + n + 1) cap) (0 + n + 1) ([] ++ xs ++ ys)) (hg2 : w1.grownBy w2 v1.ownBlock) :
    w2.cell? ⟨W.heap.size, 1, none⟩ = some v.l ∧ w2.frozen? ⟨W.heap.size, 1, none⟩ = false ∧ Lng W wr v c (n + 1) (xs ++ ys) (w2.setCell ⟨W.heap.size, 1, none⟩ (.slice (some ⟨g, 0, none⟩) (n + 1) cap)) := by
  obtain ⟨r1, r2, r3⟩ := app_two' (k := 1) (v := .slice (some ⟨g, 0, none⟩) (n + 1) cap) hg1 hg2 hd (own_ge h1) H.box
  have hbl := heap_lt H.box
  rw [Nat.zero_add, List.nil_append] at h2
  exact ⟨by rw [cell_of_row _ _ _ _ _ _ r1]; rfl, frozen_of_row _ _ _ _ _ r1, g, cap, H.but r2 r3, owns_set h2 hbl, r2⟩
theorem row_b {wr w1 : World} {xs : List Value} {e : TypeId} {size : Nat} {row : Option Nat} {o : Obj} (hs : xs.length = size) (hg : ((wr.alloc o).alloc (.cells xs.toArray e)).grownBy w1 row) (hne : row ≠ some (wr.heap.size + 1)) : w1.ownsRow 0 e size (.slice (some ⟨wr.heap.size + 1, 0, none⟩) 1 1) 1 xs := by
  have h := owns_single (W := wr.alloc o) (e := e) (xs := xs) size hs
  have q : (wr.alloc o).heap.size = wr.heap.size + 1 := by simp
  rw [q] at h
  exact grown_owns h hg hne
theorem row_c {wr w1 : World} {xs : List Value} {e : TypeId} {size : Nat} {row : Option Nat} {o : Obj} (hs : xs.length = size) (hg : ((wr.alloc (.cells xs.toArray e)).alloc o).grownBy w1 row) (hne : row ≠ some wr.heap.size) : w1.ownsRow 0 e size (.slice (some ⟨wr.heap.size, 0, none⟩) 1 1) 1 xs :=
  grown_owns ((owns_single (W := wr) (e := e) (xs := xs) size hs).alloc o) hg hne
theorem grown_below {b : Nat} {w A B : World} {row : Option Nat} (h : Below b w A) (hg : A.grownBy B row) (hr : ∀ j, row = some j → b ≤ j) (hb : b ≤ A.heap.size) : Below b w B :=
  h.trans ⟨hg.os, hg.tape, hg.output, Nat.le_trans (by omega) hg.size, fun k hk => grown_old hg hr (by omega) hk⟩
section
variable {P : Program} {ops : Array Oper} {Q : Exit → Act → World → Prop} {md : Region.Mode} {S : World → Prop} {z : Nat}
theorem Till.two {i j : Nat} {o o' : Oper} {n : Nat} {up : Array Bool} {a : Act} {w : World} (hr : Region.ready md ops up = [i, j]) (ho : ops[i]? = some o) (ho' : ops[j]? = some o')
    (h : ∀ K : Act → World → Prop, Shut (∀ a w, (i ≠ z → S w) → Till P md ops Q S z n (up.setIfInBounds i true) a w → K a w) → if Region.wanted o (yielded ops a.tmps) = true then Oper.wp P o a w K Q else K (a.put o.dst undef) w)
    (h' : ∀ K : Act → World → Prop, Shut (∀ a w, (j ≠ z → S w) → Till P md ops Q S z n (up.setIfInBounds j true) a w → K a w) → if Region.wanted o' (yielded ops a.tmps) = true then Oper.wp P o' a w K Q else K (a.put o'.dst undef) w) : Till P md ops Q S z (n + 1) up a w := by
  refine ⟨fun e => absurd e (by rw [hr]; exact List.cons_ne_nil _ _), fun k hk => ?_⟩
  rw [hr] at hk
  have hk2 : k = i ∨ k = j := by simpa using hk
  rcases hk2 with q | q
  · rw [q]; exact wpOp_step ho fun K hK => h K (fun a w hS hT => hK a w ⟨hS, hT⟩)
  · rw [q]; exact wpOp_step ho' fun K hK => h' K (fun a w hS hT => hK a w ⟨hS, hT⟩)
end
end Go.Proofs.YtfhagjnlliafiaaGreatDoor.V
namespace Go.Proofs.YtfhagjnlliafiaaGreatDoor.V
open Go.RowKit Go.BigFrame
theorem rdo_set4 (M : List Nd) (L : List It) (v : Rv) (c : Chg) (w : World) (H : Rs M L v w) (R : Rel M L) (hM : M.length ≤ 1000000) (hL : L.length ≤ 1000000) (hn : 0 < M.length) (hs : c.name.size ≤ 1000000) (hts : c.text.size ≤ 1000000) (hw : wrongM M c = 0) (hk : c.kind = 4)
    (j : Nat) (y : Nd) (ht : c.to = (j : Int)) (hy : M[j]? = some y) (h6 : c.kind = 6 → 0 ≤ c.a ∧ c.a ≤ 2) :
    Calls Tryz.prog 19 #[rvV v, chgV c] w (RDoP M L c w) := by
  have hk4 : 4 ≤ c.kind := by omega
  have h7 : c.kind ≠ 7 := by omega
  have hk8 : c.kind ≤ 8 := by omega
  have HKK := Lib.hid hk
  clear hk
  have HC := Lib.hid (fun w' hb => rwrong_any M L v c w' (H.keep hb) R hM hL hn hs hts)
  have HH := Lib.hid H
  have D0 := DIn.begin w v c
  have HRs := Lib.hid (do_set hw hk4 h7 ht hy)
  have HW := Lib.hid hw
  rw [hw] at HC
  clear hw
  obtain ⟨an, cn, hvn⟩ := owns_form H.hn
  obtain ⟨vn, vl, vc, vd, va, vf⟩ := v
  simp only at hvn
  subst hvn
  clear H
  have k0 : (c.kind == 0) = false := beq_eq_false_iff_ne.2 (by omega)
  have k1 : (c.kind == 1) = false := beq_eq_false_iff_ne.2 (by omega)
  have k2 : (c.kind == 2) = false := beq_eq_false_iff_ne.2 (by omega)
  have k3 : (c.kind == 3) = false := beq_eq_false_iff_ne.2 (by omega)
  have k7 : (c.kind == 7) = false := beq_eq_false_iff_ne.2 h7
  have k44 : decide (c.kind < 4) = false := decide_eq_false (by omega)
  have HK4 := Lib.hid hk4
  have HK8 := Lib.hid hk8
  have HK7 := Lib.hid h7
  have HT := Lib.hid ht
  have HY := Lib.hid hy
  have H6 := Lib.hid h6
  clear hk4 h7 hk8 ht hy h6
  unfold chgBox nilsR at D0
  unfold rvV chgV at HC
  unfold rvV chgV
  go_enter Tryz.func19, Tryz.ntmps19
  go_upto_region 1 with fail
  generalize hw2 : ((w.alloc _).alloc _).alloc _ = w2 at D0
  clear hw2
  have HD := Lib.hid D0
  have hb0 := D0.box
  have hc0 := D0.chg
  unfold chgBox at hc0
  have HB0 := Lib.hid hb0
  have HC0 := Lib.hid hc0
  clear hb0 hc0 D0
  go_wp2_with (first
    | fail
    | (refine wpList_load_row rfl 36 (.tmp 2) rfl w.heap.size rfl _ _ _ _ HB0.out Tryz.underlying36 rfl (by rw [sizeRef]; rfl) ?_)
    | (refine wpList_load_row rfl 56 (.tmp 3) rfl (w.heap.size + 1) rfl _ _ _ _ HC0.out Tryz.underlying56 rfl (by rw [sizeChg]; rfl) ?_))
  refine (HC.out _ HD.out.below).mono ?_
  rintro e2 w3 ⟨rfl, hb3⟩
  have D3 := HD.out.keep hb3
  have HD3 := Lib.hid D3
  have HR3 := Lib.hid (HH.out.keep D3.below)
  obtain ⟨q0, q1, q2, q3, q4, q5, q6, q7⟩ := chg_cells D3.chg
  have p0 : w3.cell? ⟨w.heap.size, 0, none⟩ = some (.slice an M.length cn) := by rw [cell_of_row _ _ _ _ _ _ D3.box]; rfl
  have hB : w.heap.size < w3.heap.size := heap_lt D3.box
  clear D3 hb3 HD HB0 HC0
  go_upto_region 27 with fail
  have p0a : ∀ o, (w3.alloc o).cell? ⟨w.heap.size, 0, none⟩ = some (.slice an M.length cn) := fun o => (World.cell?_alloc_past _ _ _ hB).trans p0
  obtain ⟨i0, hi, hz0, hz1, hz2⟩ := info_parts infoKnown
  have HMX := Lib.hid (show 0 + M.length ≤ maxLen from by unfold maxLen; omega)
  clear q0 q1 q2 q3 q4 q5 q6 q7
  have HS1 := Lib.hid (show ∀ o, (w3.alloc o).ownsRow 0 63 13 (.slice an M.length cn) M.length (bares M) from fun o => HR3.out.hn.alloc o)
  go_upto_region 28 with (at_builtin; refine wpList_append_row rfl (.tmp 135) (.tmp 137) 31 rfl w3.heap.size 63 i0 _ 13 112 Tryz.underlying31 hi hz0 hz1 hz2 rfl (by decide) (.slice (some ⟨w3.heap.size, 0, none⟩) 0 0) 0 [] rfl (owns_made (Nat.le_refl _)) (.slice an M.length cn) M.length (bares M) rfl (HS1.out _) (bares_one' M) HMX.out (by omega) (by simp) ?_; intro v1 w1 hown1 hg1; obtain ⟨g1, cap1, e1, _, _⟩ := owns_some hown1 (by omega); rw [Nat.zero_add] at e1; subst e1; have hcp := copyN HD3.out HR3.out hown1 hg1; have HCP := Lib.hid hcp; have cc0 := hcp.1; have ff0 := hcp.2.1; clear hown1 hg1 hcp)
  generalize hw5 : w1.setCell ⟨w.heap.size, 0, none⟩ (.slice (some ⟨g1, 0, none⟩) M.length cap1) = w5 at HCP
  have D5 := HCP.out.2.2.1
  have R5 := HCP.out.2.2.2.1
  have hg1 : w3.heap.size ≤ g1 := HCP.out.2.2.2.2 g1 rfl
  have hB5 : w.heap.size < w5.heap.size := heap_lt D5.box
  obtain ⟨ad, cd, hvd⟩ := owns_form R5.hd
  simp only at hvd
  subst hvd
  have p3 : w5.cell? ⟨w.heap.size, 3, none⟩ = some (.slice ad M.length cd) := by rw [cell_of_row _ _ _ _ _ _ D5.box]; rfl
  have p3a : ∀ o, (w5.alloc o).cell? ⟨w.heap.size, 3, none⟩ = some (.slice ad M.length cd) := fun o => (World.cell?_alloc_past _ _ _ hB5).trans p3
  obtain ⟨b0, bi, bz0, bz1, bz2⟩ := info_parts infoBool
  have HD5 := Lib.hid D5
  have HR5 := Lib.hid R5
  have HS5 := Lib.hid (show ∀ o, (w5.alloc o).ownsRow 0 4 1 (.slice ad M.length cd) M.length (deads M) from fun o => R5.hd.alloc o)
  clear D5 R5 HCP cc0 ff0 HS1 p0a p0 hw5 hB
  go_upto_region 29 with (at_builtin; refine wpList_append_row rfl (.tmp 140) (.tmp 142) 34 rfl w5.heap.size 4 b0 _ 1 1 Tryz.underlying34 bi bz0 bz1 bz2 rfl (by decide) (.slice (some ⟨w5.heap.size, 0, none⟩) 0 0) 0 [] rfl (owns_made (Nat.le_refl _)) (.slice ad M.length cd) M.length (deads M) rfl (HS5.out _) (deads_one M) HMX.out (by omega) (by simp) ?_; intro v6 w6 hown6 hg6; obtain ⟨g6, cap6, e6, _, _⟩ := owns_some hown6 (by omega); rw [Nat.zero_add] at e6; subst e6; have hcp := copyD HD5.out HR5.out hown6 hg6; have HCP := Lib.hid hcp; have cc0 := hcp.1; have ff0 := hcp.2.1; clear hown6 hg6 hcp)
  generalize hw7 : w6.setCell ⟨w.heap.size, 3, none⟩ (.slice (some ⟨g6, 0, none⟩) M.length cap6) = w7 at HCP
  have D7 := HCP.out.2.2.1
  have R7 := HCP.out.2.2.2.1
  have hg6 : w5.heap.size ≤ g6 := HCP.out.2.2.2.2 g6 rfl
  have HD7 := Lib.hid D7
  have HR7 := Lib.hid R7
  obtain ⟨q0, q1, q2, q3, q4, q5, q6, q7⟩ := chg_cells D7.chg
  rw [HT.out] at q2
  have s0 : w7.cell? ⟨w.heap.size, 0, none⟩ = some (.slice (some ⟨g1, 0, none⟩) M.length cap1) := by rw [cell_of_row _ _ _ _ _ _ D7.box]; rfl
  have s3 : w7.cell? ⟨w.heap.size, 3, none⟩ = some (.slice (some ⟨g6, 0, none⟩) M.length cap6) := by rw [cell_of_row _ _ _ _ _ _ D7.box]; rfl
  have hjl : j < M.length := (List.getElem?_eq_some_iff.1 HY.out).1
  have hgl : w.heap.size + 1 + 1 < w3.heap.size := heap_lt HD3.out.res
  clear D7 R7 HCP cc0 ff0 HS5 p3a p3 hw7 hB5 HD5 HR5
  go_upto_block 1 with fail
  go_cut [] from 147 to 198 (fun wx => DIn w ⟨.slice (some ⟨g1, 0, none⟩) M.length cap1, vl, vc, .slice (some ⟨g6, 0, none⟩) M.length cap6, va, vf⟩ c wx ∧ Rs (M.set j (setNd c y)) L ⟨.slice (some ⟨g1, 0, none⟩) M.length cap1, vl, vc, .slice (some ⟨g6, 0, none⟩) M.length cap6, va, vf⟩ wx)
  case first =>
    have nc := fun k u (hk : k < 13) (hu : y.bare[k]? = some u) => (show w7.cell? ⟨g1, j * 13 + k, none⟩ = some u from owns_cell HR7.out.hn ((bares_get M j k y HY.out hk).trans hu))
    have nf := fun k => (show w7.frozen? ⟨g1, j * 13 + k, none⟩ = false from owns_frozen HR7.out.hn _)
    have NC := Lib.hid nc
    have NF := Lib.hid nf
    clear nc nf HC hi hz0 hz1 hz2 bi bz0 bz1 bz2
    have hk := HKK.out
    have t4 : (c.kind == 4) = true := beq_iff_eq.2 hk
    have m3 := NC.out 3 _ (by omega) rfl
    have z3 := NF.out 3
    have HS := Lib.hid (show setNd c y = { y with mode := c.a % 4096 } by unfold setNd; rw [if_pos hk])
    clear hk
    go_wp2_with fail
    go_region_law (first
      | (go_simp; go_at_call 41; refine (bits_any c.a _).mono ?_; rintro e w1 ⟨rfl, rfl⟩))
    all_goals go_wp2_with fail
    all_goals go_meet
    all_goals (
      have hr := setN (n' := { y with mode := c.a % 4096 }) (k := 3) (u := .int .i64 (c.a % 4096)) HD7.out HR7.out rfl (by omega) HY.out (by omega) rfl rfl rfl rfl rfl
      rw [HS.out]
      first | exact hr | exact ⟨hr.1.drew, hr.2.drew⟩)
  case rest =>
    obtain ⟨D8, R8⟩ := hcut
    have HB8 := Lib.hid D8.box
    have hr8 := D8.res
    unfold nilsR at hr8
    have HR8 := Lib.hid hr8
    have HD8 := Lib.hid D8
    have HS8 := Lib.hid R8
    obtain ⟨al, cl, hvl⟩ := owns_form R8.hl
    obtain ⟨ac, cc, hvc⟩ := owns_form R8.hc
    obtain ⟨aa, ca, hva⟩ := owns_form R8.ha
    obtain ⟨af, cf, hvf⟩ := owns_form R8.hf
    simp only at hvl hvc hva hvf
    rw [List.length_set] at hvc hva
    subst hvl hvc hva hvf
    clear D8 R8 hr8 q0 q1 q2 q3 q4 q5 q6 q7 s0 s3 HC hi hz0 hz1 hz2 bi bz0 bz1 bz2
    go_wp2_with (first
      | fail
      | (refine wpList_load_row rfl 36 (.tmp 2) rfl w.heap.size rfl _ _ _ _ HB8.out Tryz.underlying36 rfl (by rw [sizeRef]; rfl) ?_)
      | (refine wpList_store_row rfl 36 (.tmp 4) (.tmp 198) rfl (w.heap.size + 1 + 1) _ rfl rfl _ _ HR8.out sizeRef rfl (one6 _ _ _ _ _ _ _ _ _ _ _ _ _ _ _ _ _ _) ?_))
    refine bodyPost_ret (v := .tuple #[.agg #[.slice (some ⟨g1, 0, none⟩) M.length cap1, .slice al L.length cl, .slice ac M.length cc, .slice (some ⟨g6, 0, none⟩) M.length cap6, .slice aa M.length ca, .slice af (devL (M.set j (setNd c y)) 0).length cf], .int .i64 0, .int .i64 0]) ?_ rfl ⟨⟨.slice (some ⟨g1, 0, none⟩) M.length cap1, .slice al L.length cl, .slice ac M.length cc, .slice (some ⟨g6, 0, none⟩) M.length cap6, .slice aa M.length ca, .slice af (devL (M.set j (setNd c y)) 0).length cf⟩, L, ?_, ?_, ?_, by omega, ?_⟩
    · exact results_do rfl (setRow_heap _ _ _ _ _ _ HR8.out) rfl
    · rw [HRs.out.2, HW.out]; rfl
    · rw [HRs.out.1]
      exact (but_setRow HR8.out _).rs HR8.out HS8.out
    · rw [HRs.out.1]
      exact R.set HY.out (setNd_ents c y) (setNd_over c y)
    · exact (but_setRow HR8.out _).below HD8.out.below (by omega) HD8.out.below.size
end Go.Proofs.YtfhagjnlliafiaaGreatDoor.V
namespace Go.Proofs.YtfhagjnlliafiaaGreatDoor.V
open Go.RowKit Go.BigFrame
theorem rdo_set5 (M : List Nd) (L : List It) (v : Rv) (c : Chg) (w : World) (H : Rs M L v w) (R : Rel M L) (hM : M.length ≤ 1000000) (hL : L.length ≤ 1000000) (hn : 0 < M.length) (hs : c.name.size ≤ 1000000) (hts : c.text.size ≤ 1000000) (hw : wrongM M c = 0) (hk : c.kind = 5)
    (j : Nat) (y : Nd) (ht : c.to = (j : Int)) (hy : M[j]? = some y) (h6 : c.kind = 6 → 0 ≤ c.a ∧ c.a ≤ 2) :
    Calls Tryz.prog 19 #[rvV v, chgV c] w (RDoP M L c w) := by
  have hk4 : 4 ≤ c.kind := by omega
  have h7 : c.kind ≠ 7 := by omega
  have hk8 : c.kind ≤ 8 := by omega
  have HKK := Lib.hid hk
  clear hk
  have HC := Lib.hid (fun w' hb => rwrong_any M L v c w' (H.keep hb) R hM hL hn hs hts)
  have HH := Lib.hid H
  have D0 := DIn.begin w v c
  have HRs := Lib.hid (do_set hw hk4 h7 ht hy)
  have HW := Lib.hid hw
  rw [hw] at HC
  clear hw
  obtain ⟨an, cn, hvn⟩ := owns_form H.hn
  obtain ⟨vn, vl, vc, vd, va, vf⟩ := v
  simp only at hvn
  subst hvn
  clear H
  have k0 : (c.kind == 0) = false := beq_eq_false_iff_ne.2 (by omega)
  have k1 : (c.kind == 1) = false := beq_eq_false_iff_ne.2 (by omega)
  have k2 : (c.kind == 2) = false := beq_eq_false_iff_ne.2 (by omega)
  have k3 : (c.kind == 3) = false := beq_eq_false_iff_ne.2 (by omega)
  have k7 : (c.kind == 7) = false := beq_eq_false_iff_ne.2 h7
  have k44 : decide (c.kind < 4) = false := decide_eq_false (by omega)
  have HK4 := Lib.hid hk4
  have HK8 := Lib.hid hk8
  have HK7 := Lib.hid h7
  have HT := Lib.hid ht
  have HY := Lib.hid hy
  have H6 := Lib.hid h6
  clear hk4 h7 hk8 ht hy h6
  unfold chgBox nilsR at D0
  unfold rvV chgV at HC
  unfold rvV chgV
  go_enter Tryz.func19, Tryz.ntmps19
  go_upto_region 1 with fail
  generalize hw2 : ((w.alloc _).alloc _).alloc _ = w2 at D0
  clear hw2
  have HD := Lib.hid D0
  have hb0 := D0.box
  have hc0 := D0.chg
  unfold chgBox at hc0
  have HB0 := Lib.hid hb0
  have HC0 := Lib.hid hc0
  clear hb0 hc0 D0
  go_wp2_with (first
    | fail
    | (refine wpList_load_row rfl 36 (.tmp 2) rfl w.heap.size rfl _ _ _ _ HB0.out Tryz.underlying36 rfl (by rw [sizeRef]; rfl) ?_)
    | (refine wpList_load_row rfl 56 (.tmp 3) rfl (w.heap.size + 1) rfl _ _ _ _ HC0.out Tryz.underlying56 rfl (by rw [sizeChg]; rfl) ?_))
  refine (HC.out _ HD.out.below).mono ?_
  rintro e2 w3 ⟨rfl, hb3⟩
  have D3 := HD.out.keep hb3
  have HD3 := Lib.hid D3
  have HR3 := Lib.hid (HH.out.keep D3.below)
  obtain ⟨q0, q1, q2, q3, q4, q5, q6, q7⟩ := chg_cells D3.chg
  have p0 : w3.cell? ⟨w.heap.size, 0, none⟩ = some (.slice an M.length cn) := by rw [cell_of_row _ _ _ _ _ _ D3.box]; rfl
  have hB : w.heap.size < w3.heap.size := heap_lt D3.box
  clear D3 hb3 HD HB0 HC0
  go_upto_region 27 with fail
  have p0a : ∀ o, (w3.alloc o).cell? ⟨w.heap.size, 0, none⟩ = some (.slice an M.length cn) := fun o => (World.cell?_alloc_past _ _ _ hB).trans p0
  obtain ⟨i0, hi, hz0, hz1, hz2⟩ := info_parts infoKnown
  have HMX := Lib.hid (show 0 + M.length ≤ maxLen from by unfold maxLen; omega)
  clear q0 q1 q2 q3 q4 q5 q6 q7
  have HS1 := Lib.hid (show ∀ o, (w3.alloc o).ownsRow 0 63 13 (.slice an M.length cn) M.length (bares M) from fun o => HR3.out.hn.alloc o)
  go_upto_region 28 with (at_builtin; refine wpList_append_row rfl (.tmp 135) (.tmp 137) 31 rfl w3.heap.size 63 i0 _ 13 112 Tryz.underlying31 hi hz0 hz1 hz2 rfl (by decide) (.slice (some ⟨w3.heap.size, 0, none⟩) 0 0) 0 [] rfl (owns_made (Nat.le_refl _)) (.slice an M.length cn) M.length (bares M) rfl (HS1.out _) (bares_one' M) HMX.out (by omega) (by simp) ?_; intro v1 w1 hown1 hg1; obtain ⟨g1, cap1, e1, _, _⟩ := owns_some hown1 (by omega); rw [Nat.zero_add] at e1; subst e1; have hcp := copyN HD3.out HR3.out hown1 hg1; have HCP := Lib.hid hcp; have cc0 := hcp.1; have ff0 := hcp.2.1; clear hown1 hg1 hcp)
  generalize hw5 : w1.setCell ⟨w.heap.size, 0, none⟩ (.slice (some ⟨g1, 0, none⟩) M.length cap1) = w5 at HCP
  have D5 := HCP.out.2.2.1
  have R5 := HCP.out.2.2.2.1
  have hg1 : w3.heap.size ≤ g1 := HCP.out.2.2.2.2 g1 rfl
  have hB5 : w.heap.size < w5.heap.size := heap_lt D5.box
  obtain ⟨ad, cd, hvd⟩ := owns_form R5.hd
  simp only at hvd
  subst hvd
  have p3 : w5.cell? ⟨w.heap.size, 3, none⟩ = some (.slice ad M.length cd) := by rw [cell_of_row _ _ _ _ _ _ D5.box]; rfl
  have p3a : ∀ o, (w5.alloc o).cell? ⟨w.heap.size, 3, none⟩ = some (.slice ad M.length cd) := fun o => (World.cell?_alloc_past _ _ _ hB5).trans p3
  obtain ⟨b0, bi, bz0, bz1, bz2⟩ := info_parts infoBool
  have HD5 := Lib.hid D5
  have HR5 := Lib.hid R5
  have HS5 := Lib.hid (show ∀ o, (w5.alloc o).ownsRow 0 4 1 (.slice ad M.length cd) M.length (deads M) from fun o => R5.hd.alloc o)
  clear D5 R5 HCP cc0 ff0 HS1 p0a p0 hw5 hB
  go_upto_region 29 with (at_builtin; refine wpList_append_row rfl (.tmp 140) (.tmp 142) 34 rfl w5.heap.size 4 b0 _ 1 1 Tryz.underlying34 bi bz0 bz1 bz2 rfl (by decide) (.slice (some ⟨w5.heap.size, 0, none⟩) 0 0) 0 [] rfl (owns_made (Nat.le_refl _)) (.slice ad M.length cd) M.length (deads M) rfl (HS5.out _) (deads_one M) HMX.out (by omega) (by simp) ?_; intro v6 w6 hown6 hg6; obtain ⟨g6, cap6, e6, _, _⟩ := owns_some hown6 (by omega); rw [Nat.zero_add] at e6; subst e6; have hcp := copyD HD5.out HR5.out hown6 hg6; have HCP := Lib.hid hcp; have cc0 := hcp.1; have ff0 := hcp.2.1; clear hown6 hg6 hcp)
  generalize hw7 : w6.setCell ⟨w.heap.size, 3, none⟩ (.slice (some ⟨g6, 0, none⟩) M.length cap6) = w7 at HCP
  have D7 := HCP.out.2.2.1
  have R7 := HCP.out.2.2.2.1
  have hg6 : w5.heap.size ≤ g6 := HCP.out.2.2.2.2 g6 rfl
  have HD7 := Lib.hid D7
  have HR7 := Lib.hid R7
  obtain ⟨q0, q1, q2, q3, q4, q5, q6, q7⟩ := chg_cells D7.chg
  rw [HT.out] at q2
  have s0 : w7.cell? ⟨w.heap.size, 0, none⟩ = some (.slice (some ⟨g1, 0, none⟩) M.length cap1) := by rw [cell_of_row _ _ _ _ _ _ D7.box]; rfl
  have s3 : w7.cell? ⟨w.heap.size, 3, none⟩ = some (.slice (some ⟨g6, 0, none⟩) M.length cap6) := by rw [cell_of_row _ _ _ _ _ _ D7.box]; rfl
  have hjl : j < M.length := (List.getElem?_eq_some_iff.1 HY.out).1
  have hgl : w.heap.size + 1 + 1 < w3.heap.size := heap_lt HD3.out.res
  clear D7 R7 HCP cc0 ff0 HS5 p3a p3 hw7 hB5 HD5 HR5
  go_upto_block 1 with fail
  go_cut [] from 147 to 198 (fun wx => DIn w ⟨.slice (some ⟨g1, 0, none⟩) M.length cap1, vl, vc, .slice (some ⟨g6, 0, none⟩) M.length cap6, va, vf⟩ c wx ∧ Rs (M.set j (setNd c y)) L ⟨.slice (some ⟨g1, 0, none⟩) M.length cap1, vl, vc, .slice (some ⟨g6, 0, none⟩) M.length cap6, va, vf⟩ wx)
  case first =>
    have nc := fun k u (hk : k < 13) (hu : y.bare[k]? = some u) => (show w7.cell? ⟨g1, j * 13 + k, none⟩ = some u from owns_cell HR7.out.hn ((bares_get M j k y HY.out hk).trans hu))
    have nf := fun k => (show w7.frozen? ⟨g1, j * 13 + k, none⟩ = false from owns_frozen HR7.out.hn _)
    have NC := Lib.hid nc
    have NF := Lib.hid nf
    clear nc nf HC hi hz0 hz1 hz2 bi bz0 bz1 bz2
    have hk := HKK.out
    have t4 : (c.kind == 4) = false := beq_eq_false_iff_ne.2 (by omega)
    have t5 : (c.kind == 5) = true := beq_iff_eq.2 hk
    have m4 := NC.out 4 _ (by omega) rfl
    have z4 := NF.out 4
    have m5 := NC.out 5 _ (by omega) rfl
    have z5 := NF.out 5
    have HS := Lib.hid (show setNd c y = { y with uid := maxI c.a 0, gid := maxI c.b 0 } by unfold setNd; rw [if_neg (by omega), if_pos hk])
    clear hk
    have q5' : w7.cell? ⟨w.heap.size + 1, 5, none⟩ = some (.int .i64 c.a) := q5
    obtain ⟨ma, hma⟩ : ∃ ma, max c.a 0 = ma := ⟨_, rfl⟩
    obtain ⟨mb, hmb⟩ : ∃ mb, max c.b 0 = mb := ⟨_, rfl⟩
    have HMa := Lib.hid hma
    have HMb := Lib.hid hmb
    clear hma hmb
    have e1 := setN (n' := { y with uid := ma }) (k := 4) (u := .int .i64 ma) HD7.out HR7.out rfl (by omega) HY.out (by omega) rfl rfl rfl rfl rfl
    have hy1 : (M.set j { y with uid := ma })[j]? = some { y with uid := ma } := by rw [List.getElem?_set, if_pos rfl, if_pos hjl]
    have e2 := setN (n' := { y with uid := ma, gid := mb }) (k := 5) (u := .int .i64 mb) e1.1 e1.2 (by rw [List.length_set]) (by omega) hy1 (by omega) rfl rfl rfl rfl rfl
    rw [List.set_set] at e2
    have HE2 := Lib.hid e2
    have HW8 := Lib.hid (heap_lt e1.1.chg)
    obtain ⟨u0, u1, u2, u3, u4, u5, u6, u7⟩ := chg_cells e1.1.chg
    rw [HT.out] at u2
    have v0 : (w7.setCell ⟨g1, j * 13 + 4, none⟩ (.int .i64 ma)).cell? ⟨w.heap.size, 0, none⟩ = some (.slice (some ⟨g1, 0, none⟩) M.length cap1) := by rw [cell_of_row _ _ _ _ _ _ e1.1.box]; rfl
    clear e1 e2 hy1
    go_upto_region 34 with fail
    rw [HMa.out]
    go_wp2_with fail
    rw [HMb.out]
    go_meet
    rw [HS.out, show maxI c.a 0 = ma by rw [maxI_max]; exact HMa.out, show maxI c.b 0 = mb by rw [maxI_max]; exact HMb.out]
    first | exact HE2.out | exact ⟨HE2.out.1.drew, HE2.out.2.drew⟩
  case rest =>
    obtain ⟨D8, R8⟩ := hcut
    have HB8 := Lib.hid D8.box
    have hr8 := D8.res
    unfold nilsR at hr8
    have HR8 := Lib.hid hr8
    have HD8 := Lib.hid D8
    have HS8 := Lib.hid R8
    obtain ⟨al, cl, hvl⟩ := owns_form R8.hl
    obtain ⟨ac, cc, hvc⟩ := owns_form R8.hc
    obtain ⟨aa, ca, hva⟩ := owns_form R8.ha
    obtain ⟨af, cf, hvf⟩ := owns_form R8.hf
    simp only at hvl hvc hva hvf
    rw [List.length_set] at hvc hva
    subst hvl hvc hva hvf
    clear D8 R8 hr8 q0 q1 q2 q3 q4 q5 q6 q7 s0 s3 HC hi hz0 hz1 hz2 bi bz0 bz1 bz2
    go_wp2_with (first
      | fail
      | (refine wpList_load_row rfl 36 (.tmp 2) rfl w.heap.size rfl _ _ _ _ HB8.out Tryz.underlying36 rfl (by rw [sizeRef]; rfl) ?_)
      | (refine wpList_store_row rfl 36 (.tmp 4) (.tmp 198) rfl (w.heap.size + 1 + 1) _ rfl rfl _ _ HR8.out sizeRef rfl (one6 _ _ _ _ _ _ _ _ _ _ _ _ _ _ _ _ _ _) ?_))
    refine bodyPost_ret (v := .tuple #[.agg #[.slice (some ⟨g1, 0, none⟩) M.length cap1, .slice al L.length cl, .slice ac M.length cc, .slice (some ⟨g6, 0, none⟩) M.length cap6, .slice aa M.length ca, .slice af (devL (M.set j (setNd c y)) 0).length cf], .int .i64 0, .int .i64 0]) ?_ rfl ⟨⟨.slice (some ⟨g1, 0, none⟩) M.length cap1, .slice al L.length cl, .slice ac M.length cc, .slice (some ⟨g6, 0, none⟩) M.length cap6, .slice aa M.length ca, .slice af (devL (M.set j (setNd c y)) 0).length cf⟩, L, ?_, ?_, ?_, by omega, ?_⟩
    · exact results_do rfl (setRow_heap _ _ _ _ _ _ HR8.out) rfl
    · rw [HRs.out.2, HW.out]; rfl
    · rw [HRs.out.1]
      exact (but_setRow HR8.out _).rs HR8.out HS8.out
    · rw [HRs.out.1]
      exact R.set HY.out (setNd_ents c y) (setNd_over c y)
    · exact (but_setRow HR8.out _).below HD8.out.below (by omega) HD8.out.below.size
end Go.Proofs.YtfhagjnlliafiaaGreatDoor.V
namespace Go.Proofs.YtfhagjnlliafiaaGreatDoor.V
open Go.RowKit Go.BigFrame
theorem rdo_set6 (M : List Nd) (L : List It) (v : Rv) (c : Chg) (w : World) (H : Rs M L v w) (R : Rel M L) (hM : M.length ≤ 1000000) (hL : L.length ≤ 1000000) (hn : 0 < M.length) (hs : c.name.size ≤ 1000000) (hts : c.text.size ≤ 1000000) (hw : wrongM M c = 0) (hk : c.kind = 6)
    (j : Nat) (y : Nd) (ht : c.to = (j : Int)) (hy : M[j]? = some y) (h6 : c.kind = 6 → 0 ≤ c.a ∧ c.a ≤ 2) :
    Calls Tryz.prog 19 #[rvV v, chgV c] w (RDoP M L c w) := by
  have hk4 : 4 ≤ c.kind := by omega
  have h7 : c.kind ≠ 7 := by omega
  have hk8 : c.kind ≤ 8 := by omega
  have HKK := Lib.hid hk
  clear hk
  have HC := Lib.hid (fun w' hb => rwrong_any M L v c w' (H.keep hb) R hM hL hn hs hts)
  have HH := Lib.hid H
  have D0 := DIn.begin w v c
  have HRs := Lib.hid (do_set hw hk4 h7 ht hy)
  have HW := Lib.hid hw
  rw [hw] at HC
  clear hw
  obtain ⟨an, cn, hvn⟩ := owns_form H.hn
  obtain ⟨vn, vl, vc, vd, va, vf⟩ := v
  simp only at hvn
  subst hvn
  clear H
  have k0 : (c.kind == 0) = false := beq_eq_false_iff_ne.2 (by omega)
  have k1 : (c.kind == 1) = false := beq_eq_false_iff_ne.2 (by omega)
  have k2 : (c.kind == 2) = false := beq_eq_false_iff_ne.2 (by omega)
  have k3 : (c.kind == 3) = false := beq_eq_false_iff_ne.2 (by omega)
  have k7 : (c.kind == 7) = false := beq_eq_false_iff_ne.2 h7
  have k44 : decide (c.kind < 4) = false := decide_eq_false (by omega)
  have HK4 := Lib.hid hk4
  have HK8 := Lib.hid hk8
  have HK7 := Lib.hid h7
  have HT := Lib.hid ht
  have HY := Lib.hid hy
  have H6 := Lib.hid h6
  clear hk4 h7 hk8 ht hy h6
  unfold chgBox nilsR at D0
  unfold rvV chgV at HC
  unfold rvV chgV
  go_enter Tryz.func19, Tryz.ntmps19
  go_upto_region 1 with fail
  generalize hw2 : ((w.alloc _).alloc _).alloc _ = w2 at D0
  clear hw2
  have HD := Lib.hid D0
  have hb0 := D0.box
  have hc0 := D0.chg
  unfold chgBox at hc0
  have HB0 := Lib.hid hb0
  have HC0 := Lib.hid hc0
  clear hb0 hc0 D0
  go_wp2_with (first
    | fail
    | (refine wpList_load_row rfl 36 (.tmp 2) rfl w.heap.size rfl _ _ _ _ HB0.out Tryz.underlying36 rfl (by rw [sizeRef]; rfl) ?_)
    | (refine wpList_load_row rfl 56 (.tmp 3) rfl (w.heap.size + 1) rfl _ _ _ _ HC0.out Tryz.underlying56 rfl (by rw [sizeChg]; rfl) ?_))
  refine (HC.out _ HD.out.below).mono ?_
  rintro e2 w3 ⟨rfl, hb3⟩
  have D3 := HD.out.keep hb3
  have HD3 := Lib.hid D3
  have HR3 := Lib.hid (HH.out.keep D3.below)
  obtain ⟨q0, q1, q2, q3, q4, q5, q6, q7⟩ := chg_cells D3.chg
  have p0 : w3.cell? ⟨w.heap.size, 0, none⟩ = some (.slice an M.length cn) := by rw [cell_of_row _ _ _ _ _ _ D3.box]; rfl
  have hB : w.heap.size < w3.heap.size := heap_lt D3.box
  clear D3 hb3 HD HB0 HC0
  go_upto_region 27 with fail
  have p0a : ∀ o, (w3.alloc o).cell? ⟨w.heap.size, 0, none⟩ = some (.slice an M.length cn) := fun o => (World.cell?_alloc_past _ _ _ hB).trans p0
  obtain ⟨i0, hi, hz0, hz1, hz2⟩ := info_parts infoKnown
  have HMX := Lib.hid (show 0 + M.length ≤ maxLen from by unfold maxLen; omega)
  clear q0 q1 q2 q3 q4 q5 q6 q7
  have HS1 := Lib.hid (show ∀ o, (w3.alloc o).ownsRow 0 63 13 (.slice an M.length cn) M.length (bares M) from fun o => HR3.out.hn.alloc o)
  go_upto_region 28 with (at_builtin; refine wpList_append_row rfl (.tmp 135) (.tmp 137) 31 rfl w3.heap.size 63 i0 _ 13 112 Tryz.underlying31 hi hz0 hz1 hz2 rfl (by decide) (.slice (some ⟨w3.heap.size, 0, none⟩) 0 0) 0 [] rfl (owns_made (Nat.le_refl _)) (.slice an M.length cn) M.length (bares M) rfl (HS1.out _) (bares_one' M) HMX.out (by omega) (by simp) ?_; intro v1 w1 hown1 hg1; obtain ⟨g1, cap1, e1, _, _⟩ := owns_some hown1 (by omega); rw [Nat.zero_add] at e1; subst e1; have hcp := copyN HD3.out HR3.out hown1 hg1; have HCP := Lib.hid hcp; have cc0 := hcp.1; have ff0 := hcp.2.1; clear hown1 hg1 hcp)
  generalize hw5 : w1.setCell ⟨w.heap.size, 0, none⟩ (.slice (some ⟨g1, 0, none⟩) M.length cap1) = w5 at HCP
  have D5 := HCP.out.2.2.1
  have R5 := HCP.out.2.2.2.1
  have hg1 : w3.heap.size ≤ g1 := HCP.out.2.2.2.2 g1 rfl
  have hB5 : w.heap.size < w5.heap.size := heap_lt D5.box
  obtain ⟨ad, cd, hvd⟩ := owns_form R5.hd
  simp only at hvd
  subst hvd
  have p3 : w5.cell? ⟨w.heap.size, 3, none⟩ = some (.slice ad M.length cd) := by rw [cell_of_row _ _ _ _ _ _ D5.box]; rfl
  have p3a : ∀ o, (w5.alloc o).cell? ⟨w.heap.size, 3, none⟩ = some (.slice ad M.length cd) := fun o => (World.cell?_alloc_past _ _ _ hB5).trans p3
  obtain ⟨b0, bi, bz0, bz1, bz2⟩ := info_parts infoBool
  have HD5 := Lib.hid D5
  have HR5 := Lib.hid R5
  have HS5 := Lib.hid (show ∀ o, (w5.alloc o).ownsRow 0 4 1 (.slice ad M.length cd) M.length (deads M) from fun o => R5.hd.alloc o)
  clear D5 R5 HCP cc0 ff0 HS1 p0a p0 hw5 hB
  go_upto_region 29 with (at_builtin; refine wpList_append_row rfl (.tmp 140) (.tmp 142) 34 rfl w5.heap.size 4 b0 _ 1 1 Tryz.underlying34 bi bz0 bz1 bz2 rfl (by decide) (.slice (some ⟨w5.heap.size, 0, none⟩) 0 0) 0 [] rfl (owns_made (Nat.le_refl _)) (.slice ad M.length cd) M.length (deads M) rfl (HS5.out _) (deads_one M) HMX.out (by omega) (by simp) ?_; intro v6 w6 hown6 hg6; obtain ⟨g6, cap6, e6, _, _⟩ := owns_some hown6 (by omega); rw [Nat.zero_add] at e6; subst e6; have hcp := copyD HD5.out HR5.out hown6 hg6; have HCP := Lib.hid hcp; have cc0 := hcp.1; have ff0 := hcp.2.1; clear hown6 hg6 hcp)
  generalize hw7 : w6.setCell ⟨w.heap.size, 3, none⟩ (.slice (some ⟨g6, 0, none⟩) M.length cap6) = w7 at HCP
  have D7 := HCP.out.2.2.1
  have R7 := HCP.out.2.2.2.1
  have hg6 : w5.heap.size ≤ g6 := HCP.out.2.2.2.2 g6 rfl
  have HD7 := Lib.hid D7
  have HR7 := Lib.hid R7
  obtain ⟨q0, q1, q2, q3, q4, q5, q6, q7⟩ := chg_cells D7.chg
  rw [HT.out] at q2
  have s0 : w7.cell? ⟨w.heap.size, 0, none⟩ = some (.slice (some ⟨g1, 0, none⟩) M.length cap1) := by rw [cell_of_row _ _ _ _ _ _ D7.box]; rfl
  have s3 : w7.cell? ⟨w.heap.size, 3, none⟩ = some (.slice (some ⟨g6, 0, none⟩) M.length cap6) := by rw [cell_of_row _ _ _ _ _ _ D7.box]; rfl
  have hjl : j < M.length := (List.getElem?_eq_some_iff.1 HY.out).1
  have hgl : w.heap.size + 1 + 1 < w3.heap.size := heap_lt HD3.out.res
  clear D7 R7 HCP cc0 ff0 HS5 p3a p3 hw7 hB5 HD5 HR5
  go_upto_block 1 with fail
  go_cut [] from 147 to 198 (fun wx => DIn w ⟨.slice (some ⟨g1, 0, none⟩) M.length cap1, vl, vc, .slice (some ⟨g6, 0, none⟩) M.length cap6, va, vf⟩ c wx ∧ Rs (M.set j (setNd c y)) L ⟨.slice (some ⟨g1, 0, none⟩) M.length cap1, vl, vc, .slice (some ⟨g6, 0, none⟩) M.length cap6, va, vf⟩ wx)
  case first =>
    have nc := fun k u (hk : k < 13) (hu : y.bare[k]? = some u) => (show w7.cell? ⟨g1, j * 13 + k, none⟩ = some u from owns_cell HR7.out.hn ((bares_get M j k y HY.out hk).trans hu))
    have nf := fun k => (show w7.frozen? ⟨g1, j * 13 + k, none⟩ = false from owns_frozen HR7.out.hn _)
    have NC := Lib.hid nc
    have NF := Lib.hid nf
    clear nc nf HC hi hz0 hz1 hz2 bi bz0 bz1 bz2
    have hk := HKK.out
    have t4 : (c.kind == 4) = false := beq_eq_false_iff_ne.2 (by omega)
    have t5 : (c.kind == 5) = false := beq_eq_false_iff_ne.2 (by omega)
    have t6 : (c.kind == 6) = true := beq_iff_eq.2 hk
    obtain ⟨ha0, ha1⟩ := H6.out hk
    have ha : c.a = 0 ∨ c.a = 1 ∨ c.a = 2 := by omega
    rcases ha with ha | ha | ha
    · have HS := Lib.hid (show setNd c y = { y with t0 := c.n } by unfold setNd; rw [if_neg (by omega), if_neg (by omega), if_pos hk, if_pos ha])
      have m9 := NC.out 9 _ (by omega) rfl
      have z9 := NF.out 9
      have e2 := Lib.hid (setN (n' := { y with t0 := c.n }) (k := 9) (u := .int .i64 c.n) HD7.out HR7.out rfl (by omega) HY.out (by omega) rfl rfl rfl rfl rfl)
      rw [ha] at q5
      obtain ⟨x0, x1, x2, x3, x4, k5', x6, k7'⟩ := chg_cells e2.out.1.chg
      rw [ha] at k5'
      rw [HT.out] at x2
      have k2' := x2
      have k0' : _ = some (Value.slice (some ⟨g1, 0, none⟩) M.length cap1) := (cell_of_row _ _ 0 _ _ _ e2.out.1.box).trans rfl
      clear x0 x1 x2 x3 x4 x6
      clear hk ha ha0 ha1
      go_wp2_with fail
      go_region_held3 (fun w' => w'.cell? ⟨w.heap.size, 0, none⟩ = some (.slice (some ⟨g1, 0, none⟩) M.length cap1) ∧ w'.cell? ⟨w.heap.size + 1, 2, none⟩ = some (.int .i64 (j : Int)) ∧ w'.cell? ⟨w.heap.size + 1, 5, none⟩ = some (.int .i64 0) ∧ w'.cell? ⟨w.heap.size + 1, 7, none⟩ = some (.int .i64 c.n)) (first | exact ⟨s0, q2, q5, q7⟩ | exact ⟨k0', k2', k5', k7'⟩) (fail)
      all_goals go_wp2_with fail
      all_goals go_meet
      all_goals rw [HS.out]
      all_goals first | exact e2.out | exact ⟨e2.out.1.drew, e2.out.2.drew⟩
    · have HS := Lib.hid (show setNd c y = { y with t1 := c.n } by unfold setNd; rw [if_neg (by omega), if_neg (by omega), if_pos hk, if_neg (by omega), if_pos ha])
      have m9 := NC.out 10 _ (by omega) rfl
      have z9 := NF.out 10
      have e2 := Lib.hid (setN (n' := { y with t1 := c.n }) (k := 10) (u := .int .i64 c.n) HD7.out HR7.out rfl (by omega) HY.out (by omega) rfl rfl rfl rfl rfl)
      rw [ha] at q5
      obtain ⟨x0, x1, x2, x3, x4, k5', x6, k7'⟩ := chg_cells e2.out.1.chg
      rw [ha] at k5'
      rw [HT.out] at x2
      have k2' := x2
      have k0' : _ = some (Value.slice (some ⟨g1, 0, none⟩) M.length cap1) := (cell_of_row _ _ 0 _ _ _ e2.out.1.box).trans rfl
      clear x0 x1 x2 x3 x4 x6
      clear hk ha ha0 ha1
      go_wp2_with fail
      go_region_held3 (fun w' => w'.cell? ⟨w.heap.size, 0, none⟩ = some (.slice (some ⟨g1, 0, none⟩) M.length cap1) ∧ w'.cell? ⟨w.heap.size + 1, 2, none⟩ = some (.int .i64 (j : Int)) ∧ w'.cell? ⟨w.heap.size + 1, 5, none⟩ = some (.int .i64 1) ∧ w'.cell? ⟨w.heap.size + 1, 7, none⟩ = some (.int .i64 c.n)) (first | exact ⟨s0, q2, q5, q7⟩ | exact ⟨k0', k2', k5', k7'⟩) (fail)
      all_goals go_wp2_with fail
      all_goals go_meet
      all_goals rw [HS.out]
      all_goals first | exact e2.out | exact ⟨e2.out.1.drew, e2.out.2.drew⟩
    · have HS := Lib.hid (show setNd c y = { y with t2 := c.n } by unfold setNd; rw [if_neg (by omega), if_neg (by omega), if_pos hk, if_neg (by omega), if_neg (by omega)])
      have m9 := NC.out 11 _ (by omega) rfl
      have z9 := NF.out 11
      have e2 := Lib.hid (setN (n' := { y with t2 := c.n }) (k := 11) (u := .int .i64 c.n) HD7.out HR7.out rfl (by omega) HY.out (by omega) rfl rfl rfl rfl rfl)
      rw [ha] at q5
      obtain ⟨x0, x1, x2, x3, x4, k5', x6, k7'⟩ := chg_cells e2.out.1.chg
      rw [ha] at k5'
      rw [HT.out] at x2
      have k2' := x2
      have k0' : _ = some (Value.slice (some ⟨g1, 0, none⟩) M.length cap1) := (cell_of_row _ _ 0 _ _ _ e2.out.1.box).trans rfl
      clear x0 x1 x2 x3 x4 x6
      clear hk ha ha0 ha1
      go_wp2_with fail
      go_region_held3 (fun w' => w'.cell? ⟨w.heap.size, 0, none⟩ = some (.slice (some ⟨g1, 0, none⟩) M.length cap1) ∧ w'.cell? ⟨w.heap.size + 1, 2, none⟩ = some (.int .i64 (j : Int)) ∧ w'.cell? ⟨w.heap.size + 1, 5, none⟩ = some (.int .i64 2) ∧ w'.cell? ⟨w.heap.size + 1, 7, none⟩ = some (.int .i64 c.n)) (first | exact ⟨s0, q2, q5, q7⟩ | exact ⟨k0', k2', k5', k7'⟩) (fail)
      all_goals go_wp2_with fail
      all_goals go_meet
      all_goals rw [HS.out]
      all_goals first | exact e2.out | exact ⟨e2.out.1.drew, e2.out.2.drew⟩
  case rest =>
    obtain ⟨D8, R8⟩ := hcut
    have HB8 := Lib.hid D8.box
    have hr8 := D8.res
    unfold nilsR at hr8
    have HR8 := Lib.hid hr8
    have HD8 := Lib.hid D8
    have HS8 := Lib.hid R8
    obtain ⟨al, cl, hvl⟩ := owns_form R8.hl
    obtain ⟨ac, cc, hvc⟩ := owns_form R8.hc
    obtain ⟨aa, ca, hva⟩ := owns_form R8.ha
    obtain ⟨af, cf, hvf⟩ := owns_form R8.hf
    simp only at hvl hvc hva hvf
    rw [List.length_set] at hvc hva
    subst hvl hvc hva hvf
    clear D8 R8 hr8 q0 q1 q2 q3 q4 q5 q6 q7 s0 s3 HC hi hz0 hz1 hz2 bi bz0 bz1 bz2
    go_wp2_with (first
      | fail
      | (refine wpList_load_row rfl 36 (.tmp 2) rfl w.heap.size rfl _ _ _ _ HB8.out Tryz.underlying36 rfl (by rw [sizeRef]; rfl) ?_)
      | (refine wpList_store_row rfl 36 (.tmp 4) (.tmp 198) rfl (w.heap.size + 1 + 1) _ rfl rfl _ _ HR8.out sizeRef rfl (one6 _ _ _ _ _ _ _ _ _ _ _ _ _ _ _ _ _ _) ?_))
    refine bodyPost_ret (v := .tuple #[.agg #[.slice (some ⟨g1, 0, none⟩) M.length cap1, .slice al L.length cl, .slice ac M.length cc, .slice (some ⟨g6, 0, none⟩) M.length cap6, .slice aa M.length ca, .slice af (devL (M.set j (setNd c y)) 0).length cf], .int .i64 0, .int .i64 0]) ?_ rfl ⟨⟨.slice (some ⟨g1, 0, none⟩) M.length cap1, .slice al L.length cl, .slice ac M.length cc, .slice (some ⟨g6, 0, none⟩) M.length cap6, .slice aa M.length ca, .slice af (devL (M.set j (setNd c y)) 0).length cf⟩, L, ?_, ?_, ?_, by omega, ?_⟩
    · exact results_do rfl (setRow_heap _ _ _ _ _ _ HR8.out) rfl
    · rw [HRs.out.2, HW.out]; rfl
    · rw [HRs.out.1]
      exact (but_setRow HR8.out _).rs HR8.out HS8.out
    · rw [HRs.out.1]
      exact R.set HY.out (setNd_ents c y) (setNd_over c y)
    · exact (but_setRow HR8.out _).below HD8.out.below (by omega) HD8.out.below.size
end Go.Proofs.YtfhagjnlliafiaaGreatDoor.V
namespace Go.Proofs.YtfhagjnlliafiaaGreatDoor.V
open Go.RowKit Go.BigFrame
theorem rdo_set8 (M : List Nd) (L : List It) (v : Rv) (c : Chg) (w : World) (H : Rs M L v w) (R : Rel M L) (hM : M.length ≤ 1000000) (hL : L.length ≤ 1000000) (hn : 0 < M.length) (hs : c.name.size ≤ 1000000) (hts : c.text.size ≤ 1000000) (hw : wrongM M c = 0) (hk : c.kind = 8)
    (j : Nat) (y : Nd) (ht : c.to = (j : Int)) (hy : M[j]? = some y) (h6 : c.kind = 6 → 0 ≤ c.a ∧ c.a ≤ 2) :
    Calls Tryz.prog 19 #[rvV v, chgV c] w (RDoP M L c w) := by
  have hk4 : 4 ≤ c.kind := by omega
  have h7 : c.kind ≠ 7 := by omega
  have hk8 : c.kind ≤ 8 := by omega
  have HKK := Lib.hid hk
  clear hk
  have HC := Lib.hid (fun w' hb => rwrong_any M L v c w' (H.keep hb) R hM hL hn hs hts)
  have HH := Lib.hid H
  have D0 := DIn.begin w v c
  have HRs := Lib.hid (do_set hw hk4 h7 ht hy)
  have HW := Lib.hid hw
  rw [hw] at HC
  clear hw
  obtain ⟨an, cn, hvn⟩ := owns_form H.hn
  obtain ⟨vn, vl, vc, vd, va, vf⟩ := v
  simp only at hvn
  subst hvn
  clear H
  have k0 : (c.kind == 0) = false := beq_eq_false_iff_ne.2 (by omega)
  have k1 : (c.kind == 1) = false := beq_eq_false_iff_ne.2 (by omega)
  have k2 : (c.kind == 2) = false := beq_eq_false_iff_ne.2 (by omega)
  have k3 : (c.kind == 3) = false := beq_eq_false_iff_ne.2 (by omega)
  have k7 : (c.kind == 7) = false := beq_eq_false_iff_ne.2 h7
  have k44 : decide (c.kind < 4) = false := decide_eq_false (by omega)
  have HK4 := Lib.hid hk4
  have HK8 := Lib.hid hk8
  have HK7 := Lib.hid h7
  have HT := Lib.hid ht
  have HY := Lib.hid hy
  have H6 := Lib.hid h6
  clear hk4 h7 hk8 ht hy h6
  unfold chgBox nilsR at D0
  unfold rvV chgV at HC
  unfold rvV chgV
  go_enter Tryz.func19, Tryz.ntmps19
  go_upto_region 1 with fail
  generalize hw2 : ((w.alloc _).alloc _).alloc _ = w2 at D0
  clear hw2
  have HD := Lib.hid D0
  have hb0 := D0.box
  have hc0 := D0.chg
  unfold chgBox at hc0
  have HB0 := Lib.hid hb0
  have HC0 := Lib.hid hc0
  clear hb0 hc0 D0
  go_wp2_with (first
    | fail
    | (refine wpList_load_row rfl 36 (.tmp 2) rfl w.heap.size rfl _ _ _ _ HB0.out Tryz.underlying36 rfl (by rw [sizeRef]; rfl) ?_)
    | (refine wpList_load_row rfl 56 (.tmp 3) rfl (w.heap.size + 1) rfl _ _ _ _ HC0.out Tryz.underlying56 rfl (by rw [sizeChg]; rfl) ?_))
  refine (HC.out _ HD.out.below).mono ?_
  rintro e2 w3 ⟨rfl, hb3⟩
  have D3 := HD.out.keep hb3
  have HD3 := Lib.hid D3
  have HR3 := Lib.hid (HH.out.keep D3.below)
  obtain ⟨q0, q1, q2, q3, q4, q5, q6, q7⟩ := chg_cells D3.chg
  have p0 : w3.cell? ⟨w.heap.size, 0, none⟩ = some (.slice an M.length cn) := by rw [cell_of_row _ _ _ _ _ _ D3.box]; rfl
  have hB : w.heap.size < w3.heap.size := heap_lt D3.box
  clear D3 hb3 HD HB0 HC0
  go_upto_region 27 with fail
  have p0a : ∀ o, (w3.alloc o).cell? ⟨w.heap.size, 0, none⟩ = some (.slice an M.length cn) := fun o => (World.cell?_alloc_past _ _ _ hB).trans p0
  obtain ⟨i0, hi, hz0, hz1, hz2⟩ := info_parts infoKnown
  have HMX := Lib.hid (show 0 + M.length ≤ maxLen from by unfold maxLen; omega)
  clear q0 q1 q2 q3 q4 q5 q6 q7
  have HS1 := Lib.hid (show ∀ o, (w3.alloc o).ownsRow 0 63 13 (.slice an M.length cn) M.length (bares M) from fun o => HR3.out.hn.alloc o)
  go_upto_region 28 with (at_builtin; refine wpList_append_row rfl (.tmp 135) (.tmp 137) 31 rfl w3.heap.size 63 i0 _ 13 112 Tryz.underlying31 hi hz0 hz1 hz2 rfl (by decide) (.slice (some ⟨w3.heap.size, 0, none⟩) 0 0) 0 [] rfl (owns_made (Nat.le_refl _)) (.slice an M.length cn) M.length (bares M) rfl (HS1.out _) (bares_one' M) HMX.out (by omega) (by simp) ?_; intro v1 w1 hown1 hg1; obtain ⟨g1, cap1, e1, _, _⟩ := owns_some hown1 (by omega); rw [Nat.zero_add] at e1; subst e1; have hcp := copyN HD3.out HR3.out hown1 hg1; have HCP := Lib.hid hcp; have cc0 := hcp.1; have ff0 := hcp.2.1; clear hown1 hg1 hcp)
  generalize hw5 : w1.setCell ⟨w.heap.size, 0, none⟩ (.slice (some ⟨g1, 0, none⟩) M.length cap1) = w5 at HCP
  have D5 := HCP.out.2.2.1
  have R5 := HCP.out.2.2.2.1
  have hg1 : w3.heap.size ≤ g1 := HCP.out.2.2.2.2 g1 rfl
  have hB5 : w.heap.size < w5.heap.size := heap_lt D5.box
  have hB52 : w.heap.size + 1 + 1 < w5.heap.size := heap_lt D5.res
  obtain ⟨ad, cd, hvd⟩ := owns_form R5.hd
  simp only at hvd
  subst hvd
  have p3 : w5.cell? ⟨w.heap.size, 3, none⟩ = some (.slice ad M.length cd) := by rw [cell_of_row _ _ _ _ _ _ D5.box]; rfl
  have p3a : ∀ o, (w5.alloc o).cell? ⟨w.heap.size, 3, none⟩ = some (.slice ad M.length cd) := fun o => (World.cell?_alloc_past _ _ _ hB5).trans p3
  obtain ⟨b0, bi, bz0, bz1, bz2⟩ := info_parts infoBool
  have HD5 := Lib.hid D5
  have HR5 := Lib.hid R5
  have HS5 := Lib.hid (show ∀ o, (w5.alloc o).ownsRow 0 4 1 (.slice ad M.length cd) M.length (deads M) from fun o => R5.hd.alloc o)
  clear D5 R5 HCP cc0 ff0 HS1 p0a p0 hw5 hB
  go_upto_region 29 with (at_builtin; refine wpList_append_row rfl (.tmp 140) (.tmp 142) 34 rfl w5.heap.size 4 b0 _ 1 1 Tryz.underlying34 bi bz0 bz1 bz2 rfl (by decide) (.slice (some ⟨w5.heap.size, 0, none⟩) 0 0) 0 [] rfl (owns_made (Nat.le_refl _)) (.slice ad M.length cd) M.length (deads M) rfl (HS5.out _) (deads_one M) HMX.out (by omega) (by simp) ?_; intro v6 w6 hown6 hg6; obtain ⟨g6, cap6, e6, _, _⟩ := owns_some hown6 (by omega); rw [Nat.zero_add] at e6; subst e6; have hcp := copyD HD5.out HR5.out hown6 hg6; have HCP := Lib.hid hcp; have cc0 := hcp.1; have ff0 := hcp.2.1; clear hown6 hg6 hcp)
  generalize hw7 : w6.setCell ⟨w.heap.size, 3, none⟩ (.slice (some ⟨g6, 0, none⟩) M.length cap6) = w7 at HCP
  have D7 := HCP.out.2.2.1
  have R7 := HCP.out.2.2.2.1
  have hg6 : w5.heap.size ≤ g6 := HCP.out.2.2.2.2 g6 rfl
  have HD7 := Lib.hid D7
  have HR7 := Lib.hid R7
  obtain ⟨q0, q1, q2, q3, q4, q5, q6, q7⟩ := chg_cells D7.chg
  rw [HT.out] at q2
  have s0 : w7.cell? ⟨w.heap.size, 0, none⟩ = some (.slice (some ⟨g1, 0, none⟩) M.length cap1) := by rw [cell_of_row _ _ _ _ _ _ D7.box]; rfl
  have s3 : w7.cell? ⟨w.heap.size, 3, none⟩ = some (.slice (some ⟨g6, 0, none⟩) M.length cap6) := by rw [cell_of_row _ _ _ _ _ _ D7.box]; rfl
  have hjl : j < M.length := (List.getElem?_eq_some_iff.1 HY.out).1
  have hgl : w.heap.size + 1 + 1 < w3.heap.size := heap_lt HD3.out.res
  clear D7 R7 HCP cc0 ff0 HS5 p3a p3 hw7 hB5 HD5 HR5
  go_upto_block 1 with fail
  go_cut [] from 147 to 198 (fun wx => DIn w ⟨.slice (some ⟨g1, 0, none⟩) M.length cap1, vl, vc, .slice (some ⟨g6, 0, none⟩) M.length cap6, va, vf⟩ c wx ∧ Rs (M.set j (setNd c y)) L ⟨.slice (some ⟨g1, 0, none⟩) M.length cap1, vl, vc, .slice (some ⟨g6, 0, none⟩) M.length cap6, va, vf⟩ wx)
  case first =>
    have nc := fun k u (hk : k < 13) (hu : y.bare[k]? = some u) => (show w7.cell? ⟨g1, j * 13 + k, none⟩ = some u from owns_cell HR7.out.hn ((bares_get M j k y HY.out hk).trans hu))
    have nf := fun k => (show w7.frozen? ⟨g1, j * 13 + k, none⟩ = false from owns_frozen HR7.out.hn _)
    have NC := Lib.hid nc
    have NF := Lib.hid nf
    clear nc nf HC hi hz0 hz1 hz2 bi bz0 bz1 bz2
    have hk := HKK.out
    have t4 : (c.kind == 4) = false := beq_eq_false_iff_ne.2 (by omega)
    have t5 : (c.kind == 5) = false := beq_eq_false_iff_ne.2 (by omega)
    have t6 : (c.kind == 6) = false := beq_eq_false_iff_ne.2 (by omega)
    have t8 : (c.kind == 8) = true := beq_iff_eq.2 hk
    have HS := Lib.hid (show setNd c y = { y with dead := true } by unfold setNd; rw [if_neg (by omega), if_neg (by omega), if_neg (by omega)])
    have m9 : w7.cell? ⟨g6, j, none⟩ = some (.bool y.dead) := owns_cell HR7.out.hd (by unfold deads; rw [List.getElem?_map, HY.out]; rfl)
    have z9 : w7.frozen? ⟨g6, j, none⟩ = false := owns_frozen HR7.out.hd _
    have hg6' : w.heap.size + 1 + 1 < g6 := by omega
    have e2 := Lib.hid (setD HD7.out HR7.out rfl hg6' HY.out)
    clear hk
    go_wp2_with fail
    go_meet
    rw [HS.out]
    exact e2.out
  case rest =>
    obtain ⟨D8, R8⟩ := hcut
    have HB8 := Lib.hid D8.box
    have hr8 := D8.res
    unfold nilsR at hr8
    have HR8 := Lib.hid hr8
    have HD8 := Lib.hid D8
    have HS8 := Lib.hid R8
    obtain ⟨al, cl, hvl⟩ := owns_form R8.hl
    obtain ⟨ac, cc, hvc⟩ := owns_form R8.hc
    obtain ⟨aa, ca, hva⟩ := owns_form R8.ha
    obtain ⟨af, cf, hvf⟩ := owns_form R8.hf
    simp only at hvl hvc hva hvf
    rw [List.length_set] at hvc hva
    subst hvl hvc hva hvf
    clear D8 R8 hr8 q0 q1 q2 q3 q4 q5 q6 q7 s0 s3 HC hi hz0 hz1 hz2 bi bz0 bz1 bz2
    go_wp2_with (first
      | fail
      | (refine wpList_load_row rfl 36 (.tmp 2) rfl w.heap.size rfl _ _ _ _ HB8.out Tryz.underlying36 rfl (by rw [sizeRef]; rfl) ?_)
      | (refine wpList_store_row rfl 36 (.tmp 4) (.tmp 198) rfl (w.heap.size + 1 + 1) _ rfl rfl _ _ HR8.out sizeRef rfl (one6 _ _ _ _ _ _ _ _ _ _ _ _ _ _ _ _ _ _) ?_))
    refine bodyPost_ret (v := .tuple #[.agg #[.slice (some ⟨g1, 0, none⟩) M.length cap1, .slice al L.length cl, .slice ac M.length cc, .slice (some ⟨g6, 0, none⟩) M.length cap6, .slice aa M.length ca, .slice af (devL (M.set j (setNd c y)) 0).length cf], .int .i64 0, .int .i64 0]) ?_ rfl ⟨⟨.slice (some ⟨g1, 0, none⟩) M.length cap1, .slice al L.length cl, .slice ac M.length cc, .slice (some ⟨g6, 0, none⟩) M.length cap6, .slice aa M.length ca, .slice af (devL (M.set j (setNd c y)) 0).length cf⟩, L, ?_, ?_, ?_, by omega, ?_⟩
    · exact results_do rfl (setRow_heap _ _ _ _ _ _ HR8.out) rfl
    · rw [HRs.out.2, HW.out]; rfl
    · rw [HRs.out.1]
      exact (but_setRow HR8.out _).rs HR8.out HS8.out
    · rw [HRs.out.1]
      exact R.set HY.out (setNd_ents c y) (setNd_over c y)
    · exact (but_setRow HR8.out _).below HD8.out.below (by omega) HD8.out.below.size
end Go.Proofs.YtfhagjnlliafiaaGreatDoor.V
