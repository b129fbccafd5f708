/-
  What the reference's wrong returns: what is wrong with a change, by the model. Conditions: at most 1000000 nodes and entries, texts of at most 1000000 bytes; the reference's entries are the model's.
  What the reference's Do has in hand; a refused change. Conditions: at most 1000000 nodes and entries, texts of at most 1000000 bytes.
  A slice of the reference's copied and stored into its box; a store into the copied nodes. Conditions: none.
  What a change that sets something makes, of the model and of the reference's slices. Conditions: none.
  How the list of entries goes with the nodes, where a change makes a node or an entry. Conditions: none.
  A region that draws its order, whose operation number z waits for others and may write what they read: what is said of the world (S) holds till z comes up, and no longer; what waits ahead of z may be taken first under S. Conditions: each law's own.
  The entries copied, lengthened by one and stored into the box. Conditions: none.
  What the reference's Do makes of a directory more. Conditions: at most 1000000 nodes and entries, texts of at most 1000000 bytes.
-/
import Derived.Test.YtknfhphhcnbndaaGreatDoorFVRefWr0
import Derived.Test.YtknfhphhcnbndaaGreatDoorFVRefWr1
import Derived.Test.YtknfhphhcnbndaaGreatDoorFVRefWr2
import Derived.Test.YtknfhphhcnbndaaGreatDoorFVRefWr3
import Derived.Test.YtknfhphhcnbndaaGreatDoorFVRefWr7
import Derived.Deep.CutBlock
import Derived.Test.YtknfhphhcnbndaaGreatDoorFVRefApp
import Derived.Deep.RegionHeld3
set_option linter.unusedSimpArgs false
set_option linter.unusedVariables false
namespace Go.Proofs.YtknfhphhcnbndaaGreatDoor.V
open List renaming setIfInBounds_toArray → lt, set_cons_zero → l0, set_cons_succ → ls
open Go.RowKit

/-- The list of entries has what the nodes' have; what covers is no number below 0. -/
structure Rel (M : List Nd) (L : List It) : Prop where
  ents : ∀ (i : Nat) (x : Nd), M[i]? = some x → x.ents = (L.filter fun e => e.at_ == (i : Int)).map fun e => (e.name, e.id)
  over : ∀ x ∈ M, 0 ≤ x.over
  at_ : ∀ e ∈ L, 0 ≤ e.at_ ∧ e.at_ < (M.length : Int)
  id : ∀ e ∈ L, 0 ≤ e.id ∧ e.id < (M.length : Int)
theorem Rel.has {M : List Nd} {L : List It} (h : Rel M L) (s : ByteArray) (a : Int) (x : Nd) (hx : atM M a = some x) : hasEnt s x.ents = itHas L a s := by
  obtain ⟨i, rfl, hi⟩ := atM_some hx
  rw [h.ents i x hi]
  unfold hasEnt itHas
  rw [List.any_map, List.any_filter]
  rfl

theorem rwrong_any (M : List Nd) (L : List It) (v : Rv) (c : Chg) (w : World) (H : Rs M L v w) (R : Rel M L) (hM : M.length ≤ 1000000) (hL : L.length ≤ 1000000) (hn : 0 < M.length) (hs : c.name.size ≤ 1000000) (hts : c.text.size ≤ 1000000) :
    Calls Tryz.prog 87 #[rvV v, chgV c] w fun e w' => e = .returned (.int .i64 (wrongM M c)) ∧ Below w.heap.size w w' := by
  by_cases hb : c.kind < 0 ∨ 8 < c.kind
  · exact wrB_any M L v c w H hn hb
  · by_cases h4 : 4 ≤ c.kind
    · by_cases h7 : c.kind = 7
      · exact wr7_any M L v c w H hM hn h7 R.over
      · exact wrN_any M L v c w H hM hn h4 (by omega) (fun e => absurd e h7)
    · have hk : c.kind = 0 ∨ c.kind = 1 ∨ c.kind = 2 ∨ c.kind = 3 := by omega
      rcases hk with hk | hk | hk | hk
      · exact wr0_any M L v c w H hM hL hn hk hs hts (R.has c.name c.at_)
      · exact wr1_any M L v c w H hM hL hn hk hs hts (R.has c.name c.at_)
      · exact wr2_any M L v c w H hM hL hn hk hs hts (R.has c.name c.at_)
      · exact wr3_any M L v c w H hM hL hn hk hs hts (R.has c.name c.at_)
end Go.Proofs.YtknfhphhcnbndaaGreatDoor.V

namespace Go.Proofs.YtknfhphhcnbndaaGreatDoor.V
open List renaming setIfInBounds_toArray → lt, set_cons_zero → l0, set_cons_succ → ls
open Go.RowKit

structure DIn (W : World) (v : Rv) (c : Chg) (w : World) : Prop where
  box : w.heap[W.heap.size]? = some (.cells #[v.n, v.l, v.c, v.d, v.a, v.f] 31 (0, 0))
  chg : w.heap[W.heap.size + 1]? = some (chgBox c)
  res : w.heap[W.heap.size + 1 + 1]? = some (.cells nilsR 31 (0, 0))
  below : Below W.heap.size W w
theorem DIn.begin (W : World) (v : Rv) (c : Chg) : DIn W v c (((W.alloc (.cells #[v.n, v.l, v.c, v.d, v.a, v.f] 31)).alloc (chgBox c)).alloc (.cells nilsR 31)) := by
  obtain ⟨q0, q1, q2⟩ := heap3 W (.cells #[v.n, v.l, v.c, v.d, v.a, v.f] 31) (chgBox c) (.cells nilsR 31)
  exact ⟨q0, q1, q2, (((Below.refl _ _).alloc (Nat.le_refl _) _).alloc (by simp) _).alloc (by simp; omega) _⟩
theorem DIn.keep {W : World} {v : Rv} {c : Chg} {w w' : World} (h : DIn W v c w) (hb : Below w.heap.size w w') : DIn W v c w' :=
  ⟨box_keep2 h.box hb, box_keep2 h.chg hb, box_keep2 h.res hb, below_two h.below hb⟩
theorem DIn.drewN {W : World} {v : Rv} {c : Chg} {w : World} (h : DIn W v c w) (n : Nat) : DIn W v c (w.drewN n) := ⟨h.box, h.chg, h.res, below_drewN' h.below⟩
theorem DIn.but {W w w' : World} {v v' : Rv} {c : Chg} (h : DIn W v c w) (hb : But W.heap.size w w') (hx : w'.heap[W.heap.size]? = some (.cells #[v'.n, v'.l, v'.c, v'.d, v'.a, v'.f] 31 (0, 0))) : DIn W v' c w' :=
  ⟨hx, (hb.block _ (heap_lt h.chg) (by omega)).trans h.chg, (hb.block _ (heap_lt h.res) (by omega)).trans h.res, hb.below h.below (Nat.le_refl _) h.below.size⟩
theorem sizeChg : (Tryz.prog.info? 89).map (·.size) = some 8 := by kernel_rfl
theorem But.rs {b : Nat} {w w' : World} (h : But b w w') {M : List Nd} {L : List It} {v : Rv} {arr : Array Value} (hb : w.heap[b]? = some (.cells arr 31 (0, 0))) (H : Rs M L v w) : Rs M L v w' :=
  ⟨h.owns H.hn hb (by decide), h.owns H.hl hb (by decide), h.owns H.hc hb (by decide), h.owns H.hd hb (by decide), h.owns H.ha hb (by decide), h.owns H.hf hb (by decide)⟩
/-- What Do returns: the reference's file system behind the change, the node, the error. -/
def RDoP (M : List Nd) (L : List It) (c : Chg) (w : World) (e : Ending) (w' : World) : Prop :=
  ∃ v' L', e = .returned (.tuple #[rvV v', .int .i64 (doR M c), .int .i64 (wrongM M c)]) ∧ Rs (doM M c) L' v' w' ∧ Rel (doM M c) L' ∧ L'.length ≤ L.length + 1 ∧ Below w.heap.size w w'
theorem results_do {tmps : Array Value} {w : World} {g : Nat} {cs : Array Value} {T : TypeId} {fr : Nat × Nat} (h4 : tmps.getD 4 undef = .pointer (some ⟨g, 0, none⟩)) (hg : w.heap[g]? = some (.cells cs T fr)) (hs : cs.size = 6) :
    (results Tryz.f41 tmps).run Tryz.prog w = .ok (.tuple #[.agg cs, tmps.getD 5 undef, tmps.getD 6 undef]) w := by
  have hp' : tmps[4]?.getD undef = .pointer (some ⟨g, 0, none⟩) := by simpa using h4
  have hl := run_loadVar_row (P := Tryz.prog) w g T 31 cs fr _ hg Tryz.underlying31 rfl (by rw [sizeRef, hs])
  simp [results, hp', asAddr, hl]

set_option maxRecDepth 100000 in
set_option maxHeartbeats 8000000 in
theorem rdo_refused (M : List Nd) (L : List It) (v : Rv) (c : Chg) (w : World) (H : Rs M L v w) (R : Rel M L) (hM : M.length ≤ 1000000) (hL : L.length ≤ 1000000) (hn : 0 < M.length) (hs : c.name.size ≤ 1000000) (hts : c.text.size ≤ 1000000) (hw : wrongM M c ≠ 0) :
    Calls Tryz.prog 41 #[rvV v, chgV c] w (RDoP M L c w) := by
  have HC := Lib.hid (fun w' hb => rwrong_any M L v c w' (H.keep hb) R hM hL hn hs hts)
  have HH := Lib.hid H
  have D0 := DIn.begin w v c
  have t1 : (wrongM M c != 0) = true := by simp [hw]
  have HRs := Lib.hid (show doM M c = M ∧ doR M c = 0 by unfold doM doR; rw [if_neg hw, if_neg hw]; exact ⟨rfl, rfl⟩)
  clear hw
  obtain ⟨e, he⟩ : ∃ e, wrongM M c = e := ⟨_, rfl⟩
  rw [he] at HC t1
  have HE := Lib.hid he
  clear he
  obtain ⟨an, cn, al, cl, ac, cc, ad, cd, aa, ca, af, cf, rfl⟩ := H.forms
  unfold chgBox nilsR at D0
  unfold rvV chgV at HC
  unfold rvV chgV
  go_enter Tryz.func41, Tryz.ntmps41
  go_upto_region 1 with fail
  generalize hw2 : ((w.alloc _).alloc _).alloc _ = w2 at D0
  clear hw2
  have HD := Lib.hid D0
  have hb0 := D0.box
  have hc0 := D0.chg
  unfold chgBox at hc0
  have HB0 := Lib.hid hb0
  have HC0 := Lib.hid hc0
  clear hb0 hc0 D0
  go_wp2_with (first
    | fail
    | (refine wpList_load_row rfl 31 (.tmp 2) rfl w.heap.size rfl _ _ _ _ HB0.out Tryz.underlying31 rfl (by rw [sizeRef]; rfl) ?_)
    | (refine wpList_load_row rfl 89 (.tmp 3) rfl (w.heap.size + 1) rfl _ _ _ _ HC0.out Tryz.underlying89 rfl (by rw [sizeChg]; rfl) ?_))
  refine (HC.out _ HD.out.below).mono ?_
  rintro e2 w3 ⟨rfl, hb3⟩
  have D3 := HD.out.keep hb3
  have HD3 := Lib.hid D3
  have hb0 := D3.box
  have hr0 := D3.res
  unfold nilsR at hr0
  have HB3 := Lib.hid hb0
  have HR3 := Lib.hid hr0
  clear hb0 hr0 D3 hb3 HD HB0 HC0
  go_wp2_with (first
    | fail
    | (refine wpList_load_row rfl 31 (.tmp 2) rfl w.heap.size rfl _ _ _ _ HB3.out Tryz.underlying31 rfl (by rw [sizeRef]; rfl) ?_)
    | (refine wpList_store_row rfl 31 (.tmp 4) (.tmp 15) rfl (w.heap.size + 1 + 1) #[.slice an M.length cn, .slice al L.length cl, .slice ac M.length cc, .slice ad M.length cd, .slice aa M.length ca, .slice af (devL M 0).length cf] rfl rfl _ _ HR3.out sizeRef rfl (one6 _ _ _ _ _ _ _ _ _ _ _ _ _ _ _ _ _ _) ?_))
  refine bodyPost_ret (v := .tuple #[.agg #[.slice an M.length cn, .slice al L.length cl, .slice ac M.length cc, .slice ad M.length cd, .slice aa M.length ca, .slice af (devL M 0).length cf], .int .i64 0, .int .i64 e]) ?_ rfl ⟨⟨.slice an M.length cn, .slice al L.length cl, .slice ac M.length cc, .slice ad M.length cd, .slice aa M.length ca, .slice af (devL M 0).length cf⟩, L, ?_, ?_, ?_, by omega, ?_⟩
  · exact results_do rfl (setRow_heap _ _ _ _ _ _ HR3.out) rfl
  · rw [HRs.out.2, HE.out]; rfl
  · rw [HRs.out.1]
    exact (but_setRow HR3.out _).rs HR3.out (HH.out.keep HD3.out.below)
  · rw [HRs.out.1]; exact R
  · exact (but_setRow HR3.out _).below HD3.out.below (by omega) HD3.out.below.size
end Go.Proofs.YtknfhphhcnbndaaGreatDoor.V

namespace Go.Proofs.YtknfhphhcnbndaaGreatDoor.V
open List renaming setIfInBounds_toArray → lt, set_cons_zero → l0, set_cons_succ → ls
open Go.RowKit

theorem app_one {W W1 : World} {o : Obj} {r : Option Nat} {b k : Nat} {v : Value} (h1 : (W.alloc o).grownBy W1 r) (hr : ∀ j, r = some j → W.heap.size ≤ j) {arr : Array Value} {T : TypeId} (hb : W.heap[b]? = some (.cells arr T (0, 0))) :
    W1.heap[b]? = some (.cells arr T (0, 0)) ∧ But b W (W1.setCell ⟨b, k, none⟩ v) ∧ (W1.setCell ⟨b, k, none⟩ v).heap[b]? = some (.cells (arr.setIfInBounds k v) T (0, 0)) := by
  have hbl := heap_lt hb
  have s1 : W.heap.size ≤ W1.heap.size := Nat.le_trans (by simp) h1.size
  have keep : ∀ j, j < W.heap.size → W1.heap[j]? = W.heap[j]? := fun j hj => by rw [grown_old h1 hr (by simp; omega) hj, heap_alloc_old _ _ hj]
  have hb2 : W1.heap[b]? = some (.cells arr T (0, 0)) := (keep b hbl).trans hb
  refine ⟨hb2, ⟨h1.os, h1.tape, h1.output, by rw [size_setCell]; omega, ?_⟩, heap_setCell_same _ _ _ _ _ _ hb2⟩
  intro j hj hjb
  rw [heap_setCell_other _ _ _ _ (by exact hjb)]
  exact keep j hj
theorem copyN {W wq w1 : World} {M : List Nd} {L : List It} {v : Rv} {c : Chg} {v1 : Value} {o : Obj} (D : DIn W v c wq) (H : Rs M L v wq)
    (h1 : w1.ownsRow wq.heap.size 66 13 v1 (0 + M.length) ([] ++ bares M)) (hg : (wq.alloc o).grownBy w1 (Value.slice (some ⟨wq.heap.size, 0, none⟩) 0 0).ownBlock) :
    w1.cell? ⟨W.heap.size, 0, none⟩ = some v.n ∧ w1.frozen? ⟨W.heap.size, 0, none⟩ = false ∧ DIn W { v with n := v1 } c (w1.setCell ⟨W.heap.size, 0, none⟩ v1) ∧ Rs M L { v with n := v1 } (w1.setCell ⟨W.heap.size, 0, none⟩ v1) ∧ (∀ j, v1.ownBlock = some j → wq.heap.size ≤ j) := by
  have hbl := heap_lt D.box
  obtain ⟨r1, r2, r3⟩ := app_one (k := 0) (v := v1) hg (own_ge (owns_made (e := 66) (size := 13) (Nat.le_refl wq.heap.size))) D.box
  have hn := owns_set (u := v1) (k := 0) h1 hbl
  rw [Nat.zero_add, List.nil_append] at hn
  exact ⟨by rw [cell_of_row _ _ _ _ _ _ r1]; rfl, frozen_of_row _ _ _ _ _ r1, D.but r2 r3, ⟨hn, r2.owns H.hl D.box (by decide), r2.owns H.hc D.box (by decide), r2.owns H.hd D.box (by decide), r2.owns H.ha D.box (by decide), r2.owns H.hf D.box (by decide)⟩, own_ge h1⟩
theorem copyD {W wq w1 : World} {M : List Nd} {L : List It} {v : Rv} {c : Chg} {v1 : Value} {o : Obj} (D : DIn W v c wq) (H : Rs M L v wq)
    (h1 : w1.ownsRow wq.heap.size 4 1 v1 (0 + M.length) ([] ++ deads M)) (hg : (wq.alloc o).grownBy w1 (Value.slice (some ⟨wq.heap.size, 0, none⟩) 0 0).ownBlock) :
    w1.cell? ⟨W.heap.size, 3, none⟩ = some v.d ∧ w1.frozen? ⟨W.heap.size, 3, none⟩ = false ∧ DIn W { v with d := v1 } c (w1.setCell ⟨W.heap.size, 3, none⟩ v1) ∧ Rs M L { v with d := v1 } (w1.setCell ⟨W.heap.size, 3, none⟩ v1) ∧ (∀ j, v1.ownBlock = some j → wq.heap.size ≤ j) := by
  have hbl := heap_lt D.box
  obtain ⟨r1, r2, r3⟩ := app_one (k := 3) (v := v1) hg (own_ge (owns_made (e := 4) (size := 1) (Nat.le_refl wq.heap.size))) D.box
  have hn := owns_set (u := v1) (k := 3) h1 hbl
  rw [Nat.zero_add, List.nil_append] at hn
  exact ⟨by rw [cell_of_row _ _ _ _ _ _ r1]; rfl, frozen_of_row _ _ _ _ _ r1, D.but r2 r3, ⟨r2.owns H.hn D.box (by decide), r2.owns H.hl D.box (by decide), r2.owns H.hc D.box (by decide), hn, r2.owns H.ha D.box (by decide), r2.owns H.hf D.box (by decide)⟩, own_ge h1⟩
theorem modify_set {M : List Nd} {j : Nat} {n : Nd} {f : Nd → Nd} (h : M[j]? = some n) : M.set j (f n) = M.modify j f := by
  apply List.ext_getElem?
  intro i
  rw [List.getElem?_set, List.getElem?_modify]
  by_cases e : j = i
  · subst e; rw [if_pos rfl, if_pos (List.getElem?_eq_some_iff.1 h).1, h]; simp
  · rw [if_neg e]; cases M[i]? <;> simp [e]
/-- What a node's number list, covers, deads and ups are, where one node is turned. -/
theorem covs_set : ∀ (M : List Nd) (b j : Nat) (n n' : Nd), M[j]? = some n → n'.over = n.over → covs (M.set j n') b = covs M b
  | [], b, j, n, n', h, _ => by simp at h
  | m :: r, b, 0, n, n', h, ho => by simp at h; subst h; simp [covs, cov, ho]
  | m :: r, b, j + 1, n, n', h, ho => by rw [List.set_cons_succ, covs, covs, covs_set r (b + 1) j n n' (by simpa using h) ho]
theorem devL_set : ∀ (M : List Nd) (b j : Nat) (n n' : Nd), M[j]? = some n → n'.ino = n.ino → devL (M.set j n') b = devL M b
  | [], b, j, n, n', h, _ => by simp at h
  | m :: r, b, 0, n, n', h, ho => by simp at h; subst h; simp [devL, ho]
  | m :: r, b, j + 1, n, n', h, ho => by rw [List.set_cons_succ, devL, devL, devL_set r (b + 1) j n n' (by simpa using h) ho]
theorem map_set_same {α : Type} {M : List Nd} {j : Nat} {n n' : Nd} (f : Nd → α) (h : M[j]? = some n) (hf : f n' = f n) : (M.set j n').map f = M.map f := by
  apply List.ext_getElem?
  intro i
  rw [List.getElem?_map, List.getElem?_map, List.getElem?_set]
  by_cases e : j = i
  · subst e; rw [if_pos rfl, if_pos (List.getElem?_eq_some_iff.1 h).1, h]; simp [hf]
  · rw [if_neg e]
/-- A store into one node of the reference's own. -/
theorem setN {W wq : World} {M : List Nd} {L : List It} {v : Rv} {c : Chg} {g cap j k : Nat} {n n' : Nd} {u : Value} (D : DIn W v c wq) (H : Rs M L v wq) (hv : v.n = .slice (some ⟨g, 0, none⟩) M.length cap) (hg : W.heap.size + 1 + 1 < g) (hj : M[j]? = some n) (hk : k < 13) (hs : n'.bare = n.bare.set k u) (ho : n'.over = n.over) (hi : n'.ino = n.ino) (hd : n'.dead = n.dead) (hu : n'.up = n.up) :
    DIn W v c (wq.setCell ⟨g, j * 13 + k, none⟩ u) ∧ Rs (M.set j n') L v (wq.setCell ⟨g, j * 13 + k, none⟩ u) := by
  have hn := H.hn
  rw [hv] at hn
  have hjl := (List.getElem?_eq_some_iff.1 hj).1
  obtain ⟨arr, hga⟩ := owns_type hn (k := g) rfl
  have hb := but_setCell wq g (j * 13 + k) u
  have hne : ∀ {e : TypeId} {size m : Nat} {x : Value} {xs : List Value}, wq.ownsRow 0 e size x m xs → e ≠ 66 → (wq.setCell ⟨g, j * 13 + k, none⟩ u).ownsRow 0 e size x m xs := fun h he => hb.owns h hga he
  refine ⟨⟨(hb.block _ (heap_lt D.box) (by omega)).trans D.box, (hb.block _ (heap_lt D.chg) (by omega)).trans D.chg, (hb.block _ (heap_lt D.res) (by omega)).trans D.res, hb.below D.below (by omega) D.below.size⟩, ?_⟩
  refine ⟨?_, hne H.hl (by decide), ?_, ?_, ?_, ?_⟩
  · rw [hv, List.length_set, ← bares_set M j k n n' u hj hk hs]
    exact owns_setCell hn (by rw [bares_len]; omega) u
  · rw [List.length_set, covs_set M 0 j n n' hj ho]; exact hne H.hc (by decide)
  · rw [List.length_set]; unfold deads; rw [map_set_same _ hj (by rw [hd])]; exact hne H.hd (by decide)
  · rw [List.length_set]; unfold ups; rw [map_set_same _ hj (by rw [hu])]; exact hne H.ha (by decide)
  · rw [devL_set M 0 j n n' hj hi]; exact hne H.hf (by decide)
theorem Rel.set {M : List Nd} {L : List It} {j : Nat} {n n' : Nd} (R : Rel M L) (hj : M[j]? = some n) (he : n'.ents = n.ents) (ho : n'.over = n.over) : Rel (M.set j n') L := by
  refine ⟨fun i x hx => ?_, fun x hx => ?_, by rw [List.length_set]; exact R.at_, by rw [List.length_set]; exact R.id⟩
  · rw [List.getElem?_set] at hx
    split at hx
    · rename_i e
      subst e
      rw [if_pos (List.getElem?_eq_some_iff.1 hj).1] at hx
      obtain rfl := Option.some.inj hx
      rw [he]; exact R.ents j n hj
    · exact R.ents i x hx
  · rcases List.mem_or_eq_of_mem_set hx with q | q
    · exact R.over x q
    · rw [q, ho]; exact R.over n (List.mem_of_getElem? hj)
end Go.Proofs.YtknfhphhcnbndaaGreatDoor.V

namespace Go.Proofs.YtknfhphhcnbndaaGreatDoor.V
open List renaming setIfInBounds_toArray → lt, set_cons_zero → l0, set_cons_succ → ls
open Go.RowKit Go.BigFrame

theorem list_set_same {α : Type} {l : List α} {i : Nat} {x : α} (h : l[i]? = some x) : l.set i x = l := by
  apply List.ext_getElem?
  intro k
  rw [List.getElem?_set]
  split
  · rename_i e
    subst e
    rw [if_pos (List.getElem?_eq_some_iff.1 h).1, h]
  · rfl
/-- A store into one mark of the reference's own. -/
theorem setD {W wq : World} {M : List Nd} {L : List It} {v : Rv} {c : Chg} {g cap j : Nat} {n : Nd} (D : DIn W v c wq) (H : Rs M L v wq) (hv : v.d = .slice (some ⟨g, 0, none⟩) M.length cap) (hg : W.heap.size + 1 + 1 < g) (hj : M[j]? = some n) :
    DIn W v c (wq.setCell ⟨g, j, none⟩ (.bool true)) ∧ Rs (M.set j { n with dead := true }) L v (wq.setCell ⟨g, j, none⟩ (.bool true)) := by
  have hn := H.hd
  rw [hv] at hn
  have hjl := (List.getElem?_eq_some_iff.1 hj).1
  obtain ⟨arr, hga⟩ := owns_type hn (k := g) rfl
  have hb := but_setCell wq g j (.bool true)
  have hne : ∀ {e : TypeId} {size m : Nat} {x : Value} {xs : List Value}, wq.ownsRow 0 e size x m xs → e ≠ 4 → (wq.setCell ⟨g, j, none⟩ (.bool true)).ownsRow 0 e size x m xs := fun h he => hb.owns h hga he
  refine ⟨⟨(hb.block _ (heap_lt D.box) (by omega)).trans D.box, (hb.block _ (heap_lt D.chg) (by omega)).trans D.chg, (hb.block _ (heap_lt D.res) (by omega)).trans D.res, hb.below D.below (by omega) D.below.size⟩, ?_⟩
  refine ⟨?_, hne H.hl (by decide), ?_, ?_, ?_, ?_⟩
  · rw [List.length_set]
    have e : bares (M.set j { n with dead := true }) = bares M := by
      have := bares_set M j 0 n { n with dead := true } (.int .i64 n.dev) hj (by omega) rfl
      rw [← this]
      have h0 : (bares M)[j * 13 + 0]? = some (.int .i64 n.dev) := (bares_get M j 0 n hj (by omega)).trans rfl
      exact (list_set_same h0)
    rw [e]; exact hne H.hn (by decide)
  · rw [List.length_set, covs_set M 0 j n { n with dead := true } hj rfl]; exact hne H.hc (by decide)
  · rw [hv, List.length_set]
    have e : deads (M.set j { n with dead := true }) = (deads M).set j (.bool true) := by unfold deads; rw [List.map_set]
    rw [e]
    exact owns_setCell hn (by unfold deads; rw [List.length_map]; exact hjl) _
  · rw [List.length_set]; unfold ups; rw [map_set_same (n' := { n with dead := true }) _ hj rfl]; exact hne H.ha (by decide)
  · rw [devL_set M 0 j n { n with dead := true } hj rfl]; exact hne H.hf (by decide)
theorem setNd_over (c : Chg) (n : Nd) : (setNd c n).over = n.over := by
  unfold setNd
  repeat' split
  all_goals rfl
theorem Rs.drew {M : List Nd} {L : List It} {v : Rv} {w : World} (H : Rs M L v w) : Rs M L v w.drew := H.keep (Below.refl _ _).drew
theorem DIn.drew {W : World} {v : Rv} {c : Chg} {w : World} (h : DIn W v c w) : DIn W v c w.drew := h.keep (Below.refl _ _).drew
theorem do_set {M : List Nd} {c : Chg} {j : Nat} {y : Nd} (hw : wrongM M c = 0) (hk : 4 ≤ c.kind) (h7 : c.kind ≠ 7) (ht : c.to = (j : Int)) (hy : M[j]? = some y) : doM M c = M.set j (setNd c y) ∧ doR M c = 0 := by
  unfold doM doR carryM
  rw [if_pos hw, if_pos hw, if_neg (by omega), if_neg (by omega), if_neg (by omega), if_neg (by omega), if_neg h7, ht, Int.toNat_natCast, modify_set hy]
  exact ⟨rfl, rfl⟩

theorem maxI_max (a : Int) : maxI a 0 = max a 0 := by
  show (if a < 0 then (0 : Int) else a) = max a 0
  split <;> omega
end Go.Proofs.YtknfhphhcnbndaaGreatDoor.V

namespace Go.Proofs.YtknfhphhcnbndaaGreatDoor.V
open List renaming setIfInBounds_toArray → lt, set_cons_zero → l0, set_cons_succ → ls
open Go.RowKit

/-- What the reference's five slices look at of a node. -/
def seenR (n : Nd) : List Value × Int × Bool × Int × Int := (n.bare, n.over, n.dead, n.up, n.ino)
theorem bares_seen : ∀ (a b : List Nd), a.map seenR = b.map seenR → bares a = bares b
  | [], [], _ => rfl
  | [], y :: r, h => by simp at h
  | x :: r, [], h => by simp at h
  | x :: r, y :: t, h => by
    simp only [List.map_cons, List.cons.injEq] at h
    rw [bares, bares, bares_seen r t h.2, show x.bare = y.bare from congrArg (·.1) h.1]
theorem covs_seen : ∀ (a b : List Nd) (k : Nat), a.map seenR = b.map seenR → covs a k = covs b k
  | [], [], _, _ => rfl
  | [], y :: r, _, h => by simp at h
  | x :: r, [], _, h => by simp at h
  | x :: r, y :: t, k, h => by
    simp only [List.map_cons, List.cons.injEq] at h
    rw [covs, covs, covs_seen r t (k + 1) h.2]
    unfold cov
    rw [show x.over = y.over from congrArg (·.2.1) h.1]
theorem devL_seen : ∀ (a b : List Nd) (k : Nat), a.map seenR = b.map seenR → devL a k = devL b k
  | [], [], _, _ => rfl
  | [], y :: r, _, h => by simp at h
  | x :: r, [], _, h => by simp at h
  | x :: r, y :: t, k, h => by
    simp only [List.map_cons, List.cons.injEq] at h
    rw [devL, devL, devL_seen r t (k + 1) h.2, show x.ino = y.ino from congrArg (·.2.2.2.2) h.1]
theorem deads_seen (a b : List Nd) (h : a.map seenR = b.map seenR) : deads a = deads b := by
  have e : ∀ l : List Nd, deads l = (l.map seenR).map fun s => Value.bool s.2.2.1 := fun l => by unfold deads; rw [List.map_map]; rfl
  rw [e a, e b, h]
theorem ups_seen (a b : List Nd) (h : a.map seenR = b.map seenR) : ups a = ups b := by
  have e : ∀ l : List Nd, ups l = (l.map seenR).map fun s => Value.int .i64 s.2.2.2.1 := fun l => by unfold ups; rw [List.map_map]; rfl
  rw [e a, e b, h]
/-- Nodes of which the reference sees the same lie in the same slices. -/
theorem Rs.seen {M M' : List Nd} {L : List It} {v : Rv} {w : World} (H : Rs M L v w) (h : M'.map seenR = M.map seenR) : Rs M' L v w := by
  have hl : M'.length = M.length := by have := congrArg List.length h; simpa using this
  refine ⟨?_, H.hl, ?_, ?_, ?_, ?_⟩
  · rw [hl, bares_seen M' M h]; exact H.hn
  · rw [hl, covs_seen M' M 0 h]; exact H.hc
  · rw [hl, deads_seen M' M h]; exact H.hd
  · rw [hl, ups_seen M' M h]; exact H.ha
  · rw [devL_seen M' M 0 h]; exact H.hf
theorem seen_modify {M : List Nd} {i : Nat} {f : Nd → Nd} (hf : ∀ n, seenR (f n) = seenR n) : (M.modify i f).map seenR = M.map seenR := by
  apply List.ext_getElem?
  intro j
  rw [List.getElem?_map, List.getElem?_map, List.getElem?_modify]
  cases M[j]? with
  | none => rfl
  | some x =>
    show Option.map seenR (some (if i = j then f x else x)) = _
    split
    · show some (seenR (f x)) = _; rw [hf]; rfl
    · rfl
theorem seen_ent (s : ByteArray) (id : Int) (n : Nd) : seenR (addEnt s id n) = seenR n := rfl
theorem seen_links (n : Nd) : seenR (moreLinks n) = seenR n := rfl

/-- A node more, without entries. -/
theorem Rel.app {M : List Nd} {L : List It} {n : Nd} (R : Rel M L) (he : n.ents = []) (ho : 0 ≤ n.over) : Rel (M ++ [n]) L := by
  refine ⟨fun i x hx => ?_, fun x hx => ?_, fun e he => ?_, fun e he => ?_⟩
  · rcases Nat.lt_or_ge i M.length with q | q
    · rw [List.getElem?_append_left q] at hx
      exact R.ents i x hx
    · rw [List.getElem?_append_right q] at hx
      have hi : i - M.length = 0 := by
        have := (List.getElem?_eq_some_iff.1 hx).1
        simp at this
        omega
      rw [hi] at hx
      obtain rfl : n = x := by simpa using hx
      rw [he, List.filter_eq_nil_iff.2 (fun e hm => by have := (R.at_ e hm).2; simp; omega)]
      rfl
  · rcases List.mem_append.1 hx with q | q
    · exact R.over x q
    · rw [List.mem_singleton.1 q]; exact ho
  · have := R.at_ e he; rw [List.length_append]; simp; omega
  · have := R.id e he; rw [List.length_append]; simp; omega
/-- An entry more. -/
theorem Rel.enter {M : List Nd} {L : List It} {i : Nat} {s : ByteArray} {id : Int} (R : Rel M L) (hi : i < M.length) (h0 : 0 ≤ id) (h1 : id < (M.length : Int)) : Rel (M.modify i (addEnt s id)) (L ++ [⟨(i : Int), s, id⟩]) := by
  refine ⟨fun j x hx => ?_, fun x hx => ?_, fun e he => ?_, fun e he => ?_⟩
  · rw [List.getElem?_modify] at hx
    obtain ⟨y, hy, hxy⟩ := Option.map_eq_some_iff.1 hx
    rw [List.filter_append, List.map_append, ← R.ents j y hy]
    by_cases e : i = j
    · subst e
      rw [if_pos rfl] at hxy
      subst hxy
      simp [addEnt]
    · rw [if_neg e] at hxy
      subst hxy
      rw [List.filter_cons_of_neg (by simp; omega)]
      simp
  · obtain ⟨j, hj⟩ := List.mem_iff_getElem?.1 hx
    rw [List.getElem?_modify] at hj
    obtain ⟨y, hy, hxy⟩ := Option.map_eq_some_iff.1 hj
    have := R.over y (List.mem_of_getElem? hy)
    by_cases e : i = j
    · rw [if_pos e] at hxy; subst hxy; exact this
    · rw [if_neg e] at hxy; subst hxy; exact this
  · rw [List.length_modify]
    rcases List.mem_append.1 he with q | q
    · exact R.at_ e q
    · rw [List.mem_singleton.1 q]; exact ⟨by show (0 : Int) ≤ (i : Int); omega, by show (i : Int) < _; omega⟩
  · rw [List.length_modify]
    rcases List.mem_append.1 he with q | q
    · exact R.id e q
    · rw [List.mem_singleton.1 q]; exact ⟨h0, h1⟩
/-- Nodes turned in what the entries do not see. -/
theorem Rel.same {M : List Nd} {L : List It} {i : Nat} {f : Nd → Nd} (R : Rel M L) (hf : ∀ n, (f n).ents = n.ents ∧ (0 ≤ n.over → 0 ≤ (f n).over)) : Rel (M.modify i f) L := by
  refine ⟨fun j x hx => ?_, fun x hx => ?_, by rw [List.length_modify]; exact R.at_, by rw [List.length_modify]; exact R.id⟩
  · rw [List.getElem?_modify] at hx
    obtain ⟨y, hy, hxy⟩ := Option.map_eq_some_iff.1 hx
    rw [← R.ents j y hy]
    by_cases e : i = j
    · rw [if_pos e] at hxy; subst hxy; exact (hf y).1
    · rw [if_neg e] at hxy; subst hxy; rfl
  · obtain ⟨j, hj⟩ := List.mem_iff_getElem?.1 hx
    rw [List.getElem?_modify] at hj
    obtain ⟨y, hy, hxy⟩ := Option.map_eq_some_iff.1 hj
    have := R.over y (List.mem_of_getElem? hy)
    by_cases e : i = j
    · rw [if_pos e] at hxy; subst hxy; exact (hf y).2 this
    · rw [if_neg e] at hxy; subst hxy; exact this
/-- What a change that builds makes of the relation. -/
theorem Rel.built {M : List Nd} {L : List It} {i : Nat} {s : ByteArray} {n : Nd} {d : Int} (R : Rel M L) (hi : i < M.length) (he : n.ents = []) : Rel (builtM M i s n d) (L ++ [⟨(i : Int), s, (M.length : Int)⟩]) := by
  unfold builtM
  refine Rel.same ?_ (fun _ => ⟨rfl, fun h => h⟩)
  exact (R.app (n := addedNd n d M) he (by show (0 : Int) ≤ (M.length : Int); omega)).enter (by rw [List.length_append]; omega) (by omega) (by rw [List.length_append]; simp; omega)
theorem seen_built {M : List Nd} {i : Nat} {s : ByteArray} {n : Nd} {d : Int} : (builtM M i s n d).map seenR = (M ++ [addedNd n d M]).map seenR := by
  unfold builtM
  rw [seen_modify seen_links, seen_modify (seen_ent _ _)]
/-- A name more for a node that there is. -/
theorem Rel.shared {M : List Nd} {L : List It} {i k : Nat} {s : ByteArray} {id : Int} (R : Rel M L) (hi : i < M.length) (h0 : 0 ≤ id) (h1 : id < (M.length : Int)) : Rel ((M.modify i (addEnt s id)).modify k moreLinks) (L ++ [⟨(i : Int), s, id⟩]) :=
  (R.enter hi h0 h1).same (fun _ => ⟨rfl, fun h => h⟩)
theorem seen_shared {M : List Nd} {i k : Nat} {s : ByteArray} {id : Int} : ((M.modify i (addEnt s id)).modify k moreLinks).map seenR = M.map seenR := by
  rw [seen_modify seen_links, seen_modify (seen_ent _ _)]
/-- A directory covered. -/
theorem Rel.covered {M : List Nd} {L : List It} {i : Nat} {m up : Int} (R : Rel M L) : Rel (coveredM M i m up) L := by
  unfold coveredM
  refine Rel.same (R.app (n := addedNd (dirNd (m % 4096) up) _ M) rfl (by show (0 : Int) ≤ (M.length : Int); omega)) (fun n => ⟨rfl, fun _ => by show (0 : Int) ≤ (M.length : Int); omega⟩)
/-- A node more at the end of the slices: what add made of them is what they are of the longer list. -/
theorem Rs.of_add {M : List Nd} {L : List It} {v : Rv} {w : World} {n : Nd} {d : Int} (hd : (addedNd n d M).dead = false) (h1 : cntD d M ≠ 0)
    (H : ROwn w v (M.length + 1) (bares M ++ (addedNd n d M).bare) L.length (itCells L) (M.length + 1) (covs M 0 ++ [.int .i64 (-1)]) (M.length + 1) (deads M ++ [.bool false]) (M.length + 1) (ups M ++ [.int .i64 n.up]) (devL M 0).length (ints (devL M 0))) : Rs (M ++ [addedNd n d M]) L v w := by
  obtain ⟨a, b, c, e, f, g⟩ := H
  have hl : (M ++ [addedNd n d M]).length = M.length + 1 := by simp
  have hdv : devL (M ++ [addedNd n d M]) 0 = devL M 0 := by
    rw [devL_append]
    have : (addedNd n d M).ino ≠ 1 := by show 1 + cntD d M ≠ 1; omega
    simp [devL, this]
  refine ⟨?_, b, ?_, ?_, ?_, ?_⟩
  · rw [hl, bares_append, bares_one]; exact a
  · rw [hl, covs_append]
    have : covs [addedNd n d M] (0 + M.length) = [.int .i64 (-1)] := by
      rw [Nat.zero_add, covs, covs]
      unfold cov
      rw [if_pos (show (addedNd n d M).over = (M.length : Int) from rfl)]
    rw [this]; exact c
  · rw [hl]; unfold deads; rw [List.map_append]; show w.ownsRow 0 _ 1 v.d _ (_ ++ [.bool (addedNd n d M).dead]); rw [hd]; exact e
  · rw [hl]; unfold ups; rw [List.map_append]; exact f
  · rw [hdv]; exact g
theorem cntD_ne {M : List Nd} {i : Nat} {x : Nd} (h : M[i]? = some x) : cntD x.dev M ≠ 0 := by have := cntD_pos h rfl; omega
end Go.Proofs.YtknfhphhcnbndaaGreatDoor.V

namespace Go.Proofs.YtknfhphhcnbndaaGreatDoor.V
open List renaming setIfInBounds_toArray → lt, set_cons_zero → l0, set_cons_succ → ls
open Go.RowKit

section
variable {P : Program} {ops : Array Oper} {Q : Exit → Act → World → Prop} {md : Region.Mode} {S : World → Prop} {z : Nat}

/-- In whatever order the rest comes up, all is well; S holds behind each operation but z. -/
def Till (P : Program) (md : Region.Mode) (ops : Array Oper) (Q : Exit → Act → World → Prop) (S : World → Prop) (z : Nat) : Nat → Array Bool → Act → World → Prop
  | 0 => fun up a w => Region.ready md ops up = [] ∧ Q .normal a w
  | n + 1 => fun up a w => (Region.ready md ops up = [] → Q .normal a w) ∧ ∀ i, i ∈ Region.ready md ops up → wpOp P ops Q i (fun a' w' => (i ≠ z → S w') ∧ Till P md ops Q S z n (up.setIfInBounds i true) a' w') a w
theorem Till.any : ∀ {n : Nat} {up : Array Bool} {a : Act} {w : World}, Till P md ops Q S z n up a w → wpAny P md ops Q n up a w
  | 0, _, _, _, h => h
  | n + 1, _, _, _, h => ⟨h.1, fun i hi => wpOp_mono (fun _ _ q => Till.any q.2) (h.2 i hi)⟩
theorem Till.region {id : Nat} {a : Act} {w : World} (hm : P.follows .mixedOrders = true) (hS : S w.drew) (h : S w.drew → Till P .any ops Q S z ops.size (Array.replicate ops.size false) a w.drew) : (Code.region id ops true).wp P Q a w :=
  wp_region_any hm (Till.any (h hS))
/-- Does z wait for i? -/
def waitsB (md : Region.Mode) (ops : Array Oper) (z i : Nat) : Bool := match ops[z]? with
  | some o => o.after.any fun e => Region.binds md e && e.on == i
  | none => false
theorem waits_not {i j : Nat} {up : Array Bool} (hz : waitsB md ops z i = true) (hi : i ∈ Region.ready md ops up) (hj : j ∈ Region.ready md ops up) : j ≠ z := by
  rintro rfl
  obtain ⟨_, o, ho, hall⟩ := mem_ready.1 hj
  unfold waitsB at hz
  rw [ho] at hz
  obtain ⟨e, he, hb⟩ := Array.any_eq_true'.1 hz
  simp only [Bool.and_eq_true, beq_iff_eq] at hb
  have h1 := hall e he hb.1
  rw [hb.2] at h1
  have h0 := (mem_ready.1 hi).1
  rcases Nat.lt_or_ge i up.size with q | q
  · simp [q] at h0 h1
    rw [h0] at h1
    cases h1
  · simp [Array.getElem?_eq_none q] at h1
theorem Till.front {i : Nat} {oi : Oper} {v : Value} (hi : ops[i]? = some oi) (hsel : ∀ (j : Nat) (o : Oper) cs b, ops[j]? = some o → o.op ≠ .select cs b) (hQ : ∀ c a w, Q (.panic c) (a.put oi.dst v) w → Q (.panic c) a w) (hz : waitsB md ops z i = true) :
    ∀ (n : Nat) (up : Array Bool) (a : Act) (w : World), (∀ j oj, ops[j]? = some oj → j ≠ i → up.getD j true = false → (∀ e ∈ oj.after, Region.binds md e = true → e.on ≠ i) → oi.apart ops oj = true) → i ∈ Region.ready md ops up → YieldsIf P ops S oi v a → S w →
      Till P md ops Q S z n (up.setIfInBounds i true) (a.put oi.dst v) w → Till P md ops Q S z (n + 1) up a w := by
  have one : ∀ {K : Act → World → Prop} {a : Act} {w : World}, YieldsIf P ops S oi v a → S w → K (a.put oi.dst v) w → wpOp P ops Q i K a w := fun hy hS hK => hy.wpOp hi hS hK
  have none : ∀ {up : Array Bool} {C : Prop}, i ∈ Region.ready md ops up → Region.ready md ops up = [] → C := fun hr h => by rw [h] at hr; cases hr
  intro n
  induction n with
  | zero =>
    intro up a w _ hr hy hS T
    refine ⟨none hr, fun j hj => ?_⟩
    rcases Classical.em (j = i) with e | e
    · rw [e]; exact one hy hS ⟨fun _ => hS, T⟩
    · have m := ready_mono (i := i) hj e
      rw [T.1] at m
      cases m
  | succ n ih =>
    intro up a w hfree hr hy hS T
    refine ⟨none hr, fun j hj => ?_⟩
    rcases Classical.em (j = i) with e | e
    · rw [e]; exact one hy hS ⟨fun _ => hS, T⟩
    · have hjz : j ≠ z := waits_not hz hr hj
      obtain ⟨hup, oj, hoj, hall⟩ := mem_ready.1 hj
      have hun : ∀ d ∈ oj.after, Region.binds md d = true → d.on ≠ i := fun d hd hb q => by
        have h1 := hall d hd hb
        rw [q] at h1
        have h0 := (mem_ready.1 hr).1
        rcases Nat.lt_or_ge i up.size with g | g
        · simp [g] at h0 h1
          rw [h0] at h1
          cases h1
        · simp [Array.getElem?_eq_none g] at h1
      have step := wpOp_putIf hoj (hfree j oj hoj e hup hun) (fun cs b => hsel i oi cs b hi) (fun cs b => hsel j oj cs b hoj) hQ hy (T.2 j (ready_mono hj e))
      refine wpOp_mono (fun a' w' q => ⟨fun _ => q.2.1 hjz, ih _ a' w' (fun k ok hk hki hku hkn => hfree k ok hk hki ?_ hkn) (ready_mono hr (Ne.symm e)) q.1 (q.2.1 hjz) ?_⟩) step
      · rcases Classical.em (j = k) with g | g
        · rw [← g]; exact hup
        · rw [getD_set_ne true g] at hku; exact hku
      · rw [Array.setIfInBounds_comm _ _ e]
        exact q.2.2
theorem Till.take {i : Nat} {oi : Oper} {v : Value} {n : Nat} {up : Array Bool} {a : Act} {w : World} (hi : ops[i]? = some oi) (hs : Region.noSelect ops = true) (hf : Region.free md ops up i = true) (hr : (Region.ready md ops up).contains i = true) (hz : waitsB md ops z i = true)
    (hQ : ∀ c a w, Q (.panic c) (a.put oi.dst v) w → Q (.panic c) a w) (hy : YieldsIf P ops S oi v a) (hS : S w) (h : Till P md ops Q S z n (up.setIfInBounds i true) (a.put oi.dst v) w) : Till P md ops Q S z (n + 1) up a w :=
  Till.front hi (Region.noSelect_spec hs) hQ hz n up a w (Region.free_spec hi hf) (by simpa using hr) hy hS h
theorem Till.next {i : Nat} {o : Oper} {n : Nat} {up : Array Bool} {a : Act} {w : World} (hr : Region.ready md ops up = [i]) (ho : ops[i]? = some o)
    (h : ∀ K : Act → World → Prop, Shut (∀ a w, (i ≠ z → S w) → Till P md ops Q S z n (up.setIfInBounds i true) a w → K a w) → if Region.wanted o (yielded ops a.tmps) = true then Oper.wp P o a w K Q else K (a.put o.dst undef) w) : Till P md ops Q S z (n + 1) up a w := by
  refine ⟨fun e => absurd e (by rw [hr]; exact List.cons_ne_nil _ _), fun j hj => ?_⟩
  rw [hr] at hj
  obtain rfl := List.mem_singleton.1 hj
  exact wpOp_step ho fun K hK => h K (fun a w hS hT => hK a w ⟨hS, hT⟩)
theorem Till.done {n : Nat} {up : Array Bool} {a : Act} {w : World} (hr : Region.ready md ops up = []) (h : Q .normal a w) : Till P md ops Q S z n up a w := by
  match n with
  | 0 => exact And.intro hr h
  | n + 1 =>
    refine ⟨fun _ => h, fun i hi => ?_⟩
    rw [hr] at hi
    cases hi
end
end Go.Proofs.YtknfhphhcnbndaaGreatDoor.V

namespace Go.Proofs.YtknfhphhcnbndaaGreatDoor.V
open List renaming setIfInBounds_toArray → lt, set_cons_zero → l0, set_cons_succ → ls
open Go.RowKit

theorem infoItem : (Tryz.prog.info? 179).map (fun i => (i.zero, i.size, i.bytes)) = some (some (.agg #[.int .i64 0, .string ⟨#[]⟩, .int .i64 0]), 3, 32) := by kernel_rfl
def itemC (a : Int) (s : ByteArray) (id : Int) : List Value := [.int .i64 a, .string s, .int .i64 id]
theorem itemC_one (a : Int) (s : ByteArray) (id : Int) : ∀ u ∈ itemC a s id, u.oneCell' = true := fun u hu => by
  unfold itemC at hu
  simp at hu
  rcases hu with rfl | rfl | rfl <;> rfl
theorem itCells_more (L : List It) (a : Int) (s : ByteArray) (id : Int) : itCells (L ++ [⟨a, s, id⟩]) = itCells L ++ itemC a s id := by rw [itCells_append]; rfl
/-- What the slices are behind the entries' appends. -/
def Lng (W wr : World) (v : Rv) (c : Chg) (mL : Nat) (xs : List Value) (wx : World) : Prop :=
  ∃ g cap, DIn W { v with l := .slice (some ⟨g, 0, none⟩) mL cap } c wx ∧ wx.ownsRow 0 179 3 (.slice (some ⟨g, 0, none⟩) mL cap) mL xs ∧ But W.heap.size wr wx
theorem lng_a {W wr w1 w2 : World} {v : Rv} {c : Chg} {n : Nat} {xs ys : List Value} {v1 : Value} {g cap : Nat} {o : Obj} (H : DIn W v c wr) (hg1 : (wr.alloc (.cells #[] 179)).grownBy w1 (Value.slice (some ⟨wr.heap.size, 0, none⟩) 0 0).ownBlock)
    (h1 : w1.ownsRow wr.heap.size 179 3 v1 (0 + n) ([] ++ xs)) (h2 : w2.ownsRow wr.heap.size 179 3 (.slice (some ⟨g, 0, none⟩) (0 + n + 1) cap) (0 + n + 1) ([] ++ xs ++ ys)) (hg2 : (w1.alloc o).grownBy w2 v1.ownBlock) :
    w2.cell? ⟨W.heap.size, 1, none⟩ = some v.l ∧ w2.frozen? ⟨W.heap.size, 1, none⟩ = false ∧ Lng W wr v c (n + 1) (xs ++ ys) (w2.setCell ⟨W.heap.size, 1, none⟩ (.slice (some ⟨g, 0, none⟩) (n + 1) cap)) := by
  obtain ⟨r1, r2, r3⟩ := app_two (k := 1) (v := .slice (some ⟨g, 0, none⟩) (n + 1) cap) hg1 hg2 (own_ge (owns_made (e := 179) (size := 3) (Nat.le_refl wr.heap.size))) (own_ge h1) H.box
  have hbl := heap_lt H.box
  rw [Nat.zero_add, List.nil_append] at h2
  exact ⟨by rw [cell_of_row _ _ _ _ _ _ r1]; rfl, frozen_of_row _ _ _ _ _ r1, g, cap, H.but r2 r3, owns_set h2 hbl, r2⟩
theorem lng_b {W wr w1 w2 : World} {v : Rv} {c : Chg} {n : Nat} {xs ys : List Value} {v1 d1 : Value} {g cap : Nat} {o o' : Obj} (H : DIn W v c wr) (hg1 : ((wr.alloc o).alloc o').grownBy w1 d1.ownBlock) (hd : ∀ j, d1.ownBlock = some j → wr.heap.size ≤ j)
    (h1 : w1.ownsRow wr.heap.size 179 3 v1 (0 + n) ([] ++ xs)) (h2 : w2.ownsRow wr.heap.size 179 3 (.slice (some ⟨g, 0, none⟩) (0 + n + 1) cap) (0 + n + 1) ([] ++ xs ++ ys)) (hg2 : w1.grownBy w2 v1.ownBlock) :
    w2.cell? ⟨W.heap.size, 1, none⟩ = some v.l ∧ w2.frozen? ⟨W.heap.size, 1, none⟩ = false ∧ Lng W wr v c (n + 1) (xs ++ ys) (w2.setCell ⟨W.heap.size, 1, none⟩ (.slice (some ⟨g, 0, none⟩) (n + 1) cap)) := by
  obtain ⟨r1, r2, r3⟩ := app_two' (k := 1) (v := .slice (some ⟨g, 0, none⟩) (n + 1) cap) hg1 hg2 hd (own_ge h1) H.box
  have hbl := heap_lt H.box
  rw [Nat.zero_add, List.nil_append] at h2
  exact ⟨by rw [cell_of_row _ _ _ _ _ _ r1]; rfl, frozen_of_row _ _ _ _ _ r1, g, cap, H.but r2 r3, owns_set h2 hbl, r2⟩
theorem row_b {wr w1 : World} {xs : List Value} {e : TypeId} {size : Nat} {row : Option Nat} {o : Obj} (hs : xs.length = size) (hg : ((wr.alloc o).alloc (.cells xs.toArray e)).grownBy w1 row) (hne : row ≠ some (wr.heap.size + 1)) : w1.ownsRow 0 e size (.slice (some ⟨wr.heap.size + 1, 0, none⟩) 1 1) 1 xs := by
  have h := owns_single (W := wr.alloc o) (e := e) (xs := xs) size hs
  have q : (wr.alloc o).heap.size = wr.heap.size + 1 := by simp
  rw [q] at h
  exact grown_owns h hg hne
theorem row_c {wr w1 : World} {xs : List Value} {e : TypeId} {size : Nat} {row : Option Nat} {o : Obj} (hs : xs.length = size) (hg : ((wr.alloc (.cells xs.toArray e)).alloc o).grownBy w1 row) (hne : row ≠ some wr.heap.size) : w1.ownsRow 0 e size (.slice (some ⟨wr.heap.size, 0, none⟩) 1 1) 1 xs :=
  grown_owns ((owns_single (W := wr) (e := e) (xs := xs) size hs).alloc o) hg hne
theorem grown_below {b : Nat} {w A B : World} {row : Option Nat} (h : Below b w A) (hg : A.grownBy B row) (hr : ∀ j, row = some j → b ≤ j) (hb : b ≤ A.heap.size) : Below b w B :=
  h.trans ⟨hg.os, hg.tape, hg.output, Nat.le_trans (by omega) hg.size, fun k hk => grown_old hg hr (by omega) hk⟩
section
variable {P : Program} {ops : Array Oper} {Q : Exit → Act → World → Prop} {md : Region.Mode} {S : World → Prop} {z : Nat}
theorem Till.two {i j : Nat} {o o' : Oper} {n : Nat} {up : Array Bool} {a : Act} {w : World} (hr : Region.ready md ops up = [i, j]) (ho : ops[i]? = some o) (ho' : ops[j]? = some o')
    (h : ∀ K : Act → World → Prop, Shut (∀ a w, (i ≠ z → S w) → Till P md ops Q S z n (up.setIfInBounds i true) a w → K a w) → if Region.wanted o (yielded ops a.tmps) = true then Oper.wp P o a w K Q else K (a.put o.dst undef) w)
    (h' : ∀ K : Act → World → Prop, Shut (∀ a w, (j ≠ z → S w) → Till P md ops Q S z n (up.setIfInBounds j true) a w → K a w) → if Region.wanted o' (yielded ops a.tmps) = true then Oper.wp P o' a w K Q else K (a.put o'.dst undef) w) : Till P md ops Q S z (n + 1) up a w := by
  refine ⟨fun e => absurd e (by rw [hr]; exact List.cons_ne_nil _ _), fun k hk => ?_⟩
  rw [hr] at hk
  have hk2 : k = i ∨ k = j := by simpa using hk
  rcases hk2 with q | q
  · rw [q]; exact wpOp_step ho fun K hK => h K (fun a w hS hT => hK a w ⟨hS, hT⟩)
  · rw [q]; exact wpOp_step ho' fun K hK => h' K (fun a w hS hT => hK a w ⟨hS, hT⟩)
end
end Go.Proofs.YtknfhphhcnbndaaGreatDoor.V

namespace Go.Proofs.YtknfhphhcnbndaaGreatDoor.V
open List renaming setIfInBounds_toArray → lt, set_cons_zero → l0, set_cons_succ → ls
open Go.RowKit Go.BigFrame

def dirOf (d m up : Int) : Nd := { dirNd m up with dev := d }
theorem rown_rs {M : List Nd} {L : List It} {v : Rv} {w : World} (H : Rs M L v w) : ROwn w v M.length (bares M) L.length (itCells L) M.length (covs M 0) M.length (deads M) M.length (ups M) (devL M 0).length (ints (devL M 0)) := ⟨H.hn, H.hl, H.hc, H.hd, H.ha, H.hf⟩
theorem rown_mk {wx : World} (v : Rv) {mN mL mC mD mA mF : Nat} {xN xL xC xD xA xF : List Value} (a : wx.ownsRow 0 66 13 v.n mN xN) (b : wx.ownsRow 0 179 3 v.l mL xL) (c : wx.ownsRow 0 3 1 v.c mC xC) (d : wx.ownsRow 0 4 1 v.d mD xD) (e : wx.ownsRow 0 3 1 v.a mA xA) (f : wx.ownsRow 0 3 1 v.f mF xF) : ROwn wx v mN xN mL xL mC xC mD xD mA xA mF xF := ⟨a, b, c, d, e, f⟩
theorem do_dir {M : List Nd} {c : Chg} {i : Nat} {x : Nd} (hw : wrongM M c = 0) (hk : c.kind = 0) (ht : c.at_ = (i : Int)) (hx : M[i]? = some x) : doM M c = builtM M i c.name (dirNd (c.a % 4096) (i : Int)) x.dev ∧ doR M c = (M.length : Int) := by
  have ha : atM M c.at_ = some x := by unfold atM; rw [ht, if_pos ⟨by omega, by have := (List.getElem?_eq_some_iff.1 hx).1; omega⟩, Int.toNat_natCast]; exact hx
  unfold doM doR carryM
  rw [if_pos hw, if_pos hw, if_pos hk, ha, ht, Int.toNat_natCast]
  exact ⟨rfl, rfl⟩
/-- Behind a node more. -/
def AddMid (W : World) (M : List Nd) (L : List It) (c : Chg) (nn : Nd) (up : Int) (w : World) : Prop :=
  ∃ v3, DIn W v3 c w ∧ ROwn w v3 (M.length + 1) (bares M ++ nn.bare) L.length (itCells L) (M.length + 1) (covs M 0 ++ [.int .i64 (-1)]) (M.length + 1) (deads M ++ [.bool false]) (M.length + 1) (ups M ++ [.int .i64 up]) (devL M 0).length (ints (devL M 0))

/-- What the region of a node more reads. -/
structure SA (W : World) (gn : Nat) (mN cn : Nat) (al : Option Addr) (mL cl gc cc : Nat) (ad : Option Addr) (cd : Nat) (aa : Option Addr) (ca : Nat) (af : Option Addr) (mF cf : Nat) (c : Chg) (i : Nat) (d : Int) (w : World) : Prop where
  din : DIn W ⟨.slice (some ⟨gn, 0, none⟩) mN cn, .slice al mL cl, .slice (some ⟨gc, 0, none⟩) mN cc, .slice ad mN cd, .slice aa mN ca, .slice af mF cf⟩ c w
  k1 : w.cell? ⟨W.heap.size + 1, 1, none⟩ = some (.int .i64 (i : Int))
  k5 : w.cell? ⟨W.heap.size + 1, 5, none⟩ = some (.int .i64 c.a)
  n : w.cell? ⟨gn, i * 13, none⟩ = some (.int .i64 d)
  s0 : w.cell? ⟨W.heap.size, 0, none⟩ = some (.slice (some ⟨gn, 0, none⟩) mN cn)
  s1 : w.cell? ⟨W.heap.size, 1, none⟩ = some (.slice al mL cl)
  s2 : w.cell? ⟨W.heap.size, 2, none⟩ = some (.slice (some ⟨gc, 0, none⟩) mN cc)
  s3 : w.cell? ⟨W.heap.size, 3, none⟩ = some (.slice ad mN cd)
  s4 : w.cell? ⟨W.heap.size, 4, none⟩ = some (.slice aa mN ca)
  s5 : w.cell? ⟨W.heap.size, 5, none⟩ = some (.slice af mF cf)
theorem cell_keep {w w' : World} {a : Addr} {v : Value} (h : w.cell? a = some v) (hb : Below w.heap.size w w') : w'.cell? a = some v := by
  have hl : a.block < w.heap.size := by
    apply Classical.byContradiction
    intro hn
    have : w.heap[a.block]? = none := Array.getElem?_eq_none (by omega)
    unfold World.cell? at h
    simp [this] at h
  rw [hb.cell (p := a) hl]
  exact h
theorem SA.keep {W : World} {gn mN cn : Nat} {al : Option Addr} {mL cl gc cc : Nat} {ad : Option Addr} {cd : Nat} {aa : Option Addr} {ca : Nat} {af : Option Addr} {mF cf : Nat} {c : Chg} {i : Nat} {d : Int} {w w' : World}
    (h : SA W gn mN cn al mL cl gc cc ad cd aa ca af mF cf c i d w) (hb : Below w.heap.size w w') : SA W gn mN cn al mL cl gc cc ad cd aa ca af mF cf c i d w' :=
  ⟨h.din.keep hb, cell_keep h.k1 hb, cell_keep h.k5 hb, cell_keep h.n hb, cell_keep h.s0 hb, cell_keep h.s1 hb, cell_keep h.s2 hb, cell_keep h.s3 hb, cell_keep h.s4 hb, cell_keep h.s5 hb⟩

set_option maxRecDepth 100000 in
set_option maxHeartbeats 8000000 in
theorem rdo_add0 (M : List Nd) (L : List It) (v : Rv) (c : Chg) (w : World) (H : Rs M L v w) (R : Rel M L) (hM : M.length ≤ 1000000) (hL : L.length ≤ 1000000) (hn : 0 < M.length) (hs : c.name.size ≤ 1000000) (hts : c.text.size ≤ 1000000) (hw : wrongM M c = 0) (hk : c.kind = 0)
    (i : Nat) (x : Nd) (ht : c.at_ = (i : Int)) (hx : M[i]? = some x) :
    Calls Tryz.prog 41 #[rvV v, chgV c] w (RDoP M L c w) := by
  have HKK := Lib.hid hk
  have HRs := Lib.hid (do_dir hw hk ht hx)
  have HC := Lib.hid (fun w' hb => rwrong_any M L v c w' (H.keep hb) R hM hL hn hs hts)
  have HH := Lib.hid H
  have D0 := DIn.begin w v c
  have HW := Lib.hid hw
  rw [hw] at HC
  clear hw
  obtain ⟨gn, cn, al, cl, gc, cc, ad, cd, aa, ca, af, cf, rfl⟩ := H.at_ hn
  clear H
  have HT := Lib.hid ht
  have HX := Lib.hid hx
  have hil : i < M.length := (List.getElem?_eq_some_iff.1 hx).1
  clear ht hx hk
  unfold chgBox nilsR at D0
  unfold rvV chgV at HC
  unfold rvV chgV
  go_enter Tryz.func41, Tryz.ntmps41
  go_upto_region 1 with fail
  generalize hw2 : ((w.alloc _).alloc _).alloc _ = w2 at D0
  clear hw2
  have HD := Lib.hid D0
  have hb0 := D0.box
  have hc0 := D0.chg
  unfold chgBox at hc0
  have HB0 := Lib.hid hb0
  have HC0 := Lib.hid hc0
  clear hb0 hc0 D0
  go_wp2_with (first
    | fail
    | (refine wpList_load_row rfl 31 (.tmp 2) rfl w.heap.size rfl _ _ _ _ HB0.out Tryz.underlying31 rfl (by rw [sizeRef]; rfl) ?_)
    | (refine wpList_load_row rfl 89 (.tmp 3) rfl (w.heap.size + 1) rfl _ _ _ _ HC0.out Tryz.underlying89 rfl (by rw [sizeChg]; rfl) ?_))
  refine (HC.out _ HD.out.below).mono ?_
  rintro e2 w3 ⟨rfl, hb3⟩
  have D3 := HD.out.keep hb3
  have HD3 := Lib.hid D3
  have HR3 := Lib.hid (HH.out.keep D3.below)
  obtain ⟨q0, q1, q2, q3, q4, q5, q6, q7⟩ := chg_cells D3.chg
  have bx : ∀ j u, (#[.slice (some ⟨gn, 0, none⟩) M.length cn, .slice al L.length cl, .slice (some ⟨gc, 0, none⟩) M.length cc, .slice ad M.length cd, .slice aa M.length ca, .slice af (devL M 0).length cf] : Array Value)[j]? = some u → w3.cell? ⟨w.heap.size, j, none⟩ = some u := fun j u hu => by rw [cell_of_row _ _ _ _ _ _ D3.box]; exact hu
  have p0 := bx 0 _ rfl
  have p1 := bx 1 _ rfl
  have p2 := bx 2 _ rfl
  have p3 := bx 3 _ rfl
  have p4 := bx 4 _ rfl
  have p5 := bx 5 _ rfl
  have n0 : w3.cell? ⟨gn, i * 13, none⟩ = some (.int .i64 x.dev) := (HH.out.keep D3.below).node_cell (k := 0) HX.out (by omega) rfl
  rw [HT.out] at q1
  rw [HKK.out] at q0
  clear D3 hb3 HD HB0 HC0 bx
  go_upto_block 0 with fail
  obtain ⟨nn, hnn⟩ : ∃ nn, addedNd (dirOf x.dev (c.a % 4096) (i : Int)) x.dev M = nn := ⟨_, rfl⟩
  have HNn := Lib.hid hnn
  go_cut [8] from 22 to 114 (fun a8 wx => a8 = .int .i64 (M.length : Int) ∧ AddMid w M L c nn (i : Int) wx)
  case first =>
    have HO := Lib.hid (fun wx (h : SA w gn M.length cn al L.length cl gc cc ad cd aa ca af (devL M 0).length cf c i x.dev wx) => rown_rs (HH.out.keep h.din.below))
    have HADD := Lib.hid (fun wx (h : SA w gn M.length cn al L.length cl gc cc ad cd aa ca af (devL M 0).length cf c i x.dev wx) => show Calls Tryz.prog 88 #[.agg #[.slice (some ⟨gn, 0, none⟩) M.length cn, .slice al L.length cl, .slice (some ⟨gc, 0, none⟩) M.length cc, .slice ad M.length cd, .slice aa M.length ca, .slice af (devL M 0).length cf], .agg #[.int .i64 x.dev, .int .i64 0, .int .i64 2, .int .i64 (c.a % 4096), .int .i64 0, .int .i64 0, .int .i64 4096, .int .i64 8, .int .i64 0, .int .i64 0, .int .i64 0, .int .i64 0, .string ⟨#[]⟩], .int .i64 (i : Int)] wx _ from radd_any M L ⟨.slice (some ⟨gn, 0, none⟩) M.length cn, .slice al L.length cl, .slice (some ⟨gc, 0, none⟩) M.length cc, .slice ad M.length cd, .slice aa M.length ca, .slice af (devL M 0).length cf⟩ (dirOf x.dev (c.a % 4096) (i : Int)) (i : Int) wx (devL M 0) (HO.out wx h) hM)
    have HSA := Lib.hid (show SA w gn M.length cn al L.length cl gc cc ad cd aa ca af (devL M 0).length cf c i x.dev w3 from ⟨HD3.out, q1, q5, n0, p0, p1, p2, p3, p4, p5⟩)
    clear hnn
    go_upto_region 7 with fail
    clear p0 p1 p2 p3 p4 p5 q0 q1 q2 q3 q4 q5 q6 q7 n0
    refine Till.region (z := 15) (S := SA w gn M.length cn al L.length cl gc cc ad cd aa ca af (devL M 0).length cf c i x.dev) (by kernel_rfl) (SA.keep HSA.out (Below.refl _ _).drew) (fun hHeld => ?_)
    refine Till.take (i := 0) (oi := ⟨some 24, .load 31 (.tmp 2), 31, "ref.go:130", #[], none⟩) (v := .agg #[.slice (some ⟨gn, 0, none⟩) M.length cn, .slice al L.length cl, .slice (some ⟨gc, 0, none⟩) M.length cc, .slice ad M.length cd, .slice aa M.length ca, .slice af (devL M 0).length cf]) rfl (by kernel_rfl) (by kernel_rfl) (by kernel_rfl) (by kernel_rfl) (fun _ _ _ h => h) (Or.inl ⟨by rfl, fun w0 hS0 => ?_⟩) (by assumption) ?_
    · have c0 := hS0.s0; have c1 := hS0.s1; have c2 := hS0.s2; have c3 := hS0.s3; have c4 := hS0.s4; have c5 := hS0.s5; go_simp
    try simp only [Act.put, lt, l0, ls]
    refine Till.take (i := 1) (oi := ⟨some 25, .fieldAddr 31 (.tmp 2) 0, 0, "ref.go:130", #[], none⟩) (v := .pointer (some ⟨w.heap.size, 0, none⟩)) rfl (by kernel_rfl) (by kernel_rfl) (by kernel_rfl) (by kernel_rfl) (fun _ _ _ h => h) (Or.inl ⟨by rfl, fun w0 hS0 => ?_⟩) (by assumption) ?_
    · go_simp
    try simp only [Act.put, lt, l0, ls]
    refine Till.take (i := 2) (oi := ⟨some 26, .load 26 (.tmp 25), 26, "ref.go:130", #[⟨1, .data⟩], none⟩) (v := .slice (some ⟨gn, 0, none⟩) M.length cn) rfl (by kernel_rfl) (by kernel_rfl) (by kernel_rfl) (by kernel_rfl) (fun _ _ _ h => h) (Or.inl ⟨by rfl, fun w0 hS0 => ?_⟩) (by assumption) ?_
    · have c := hS0.s0; go_simp
    try simp only [Act.put, lt, l0, ls]
    refine Till.take (i := 3) (oi := ⟨some 27, .fieldAddr 89 (.tmp 3) 1, 0, "ref.go:130", #[], none⟩) (v := .pointer (some ⟨(w.heap.size + 1), 1, none⟩)) rfl (by kernel_rfl) (by kernel_rfl) (by kernel_rfl) (by kernel_rfl) (fun _ _ _ h => h) (Or.inl ⟨by rfl, fun w0 hS0 => ?_⟩) (by assumption) ?_
    · go_simp
    try simp only [Act.put, lt, l0, ls]
    refine Till.take (i := 4) (oi := ⟨some 28, .load 3 (.tmp 27), 3, "ref.go:130", #[⟨3, .data⟩], none⟩) (v := .int .i64 ((i : Int))) rfl (by kernel_rfl) (by kernel_rfl) (by kernel_rfl) (by kernel_rfl) (fun _ _ _ h => h) (Or.inl ⟨by rfl, fun w0 hS0 => ?_⟩) (by assumption) ?_
    · have c := hS0.k1; go_simp
    try simp only [Act.put, lt, l0, ls]
    refine Till.take (i := 5) (oi := ⟨some 29, .indexAddr 26 (.tmp 26) (.tmp 28), 0, "ref.go:130", #[⟨2, .data⟩, ⟨4, .data⟩], none⟩) (v := .pointer (some ⟨gn, i * 13, none⟩)) rfl (by kernel_rfl) (by kernel_rfl) (by kernel_rfl) (by kernel_rfl) (fun _ _ _ h => h) (Or.inl ⟨by rfl, fun w0 hS0 => ?_⟩) (by assumption) ?_
    · go_simp
    try simp only [Act.put, lt, l0, ls]
    refine Till.take (i := 6) (oi := ⟨some 30, .fieldAddr 66 (.tmp 29) 0, 0, "ref.go:130", #[⟨5, .data⟩], none⟩) (v := .pointer (some ⟨gn, i * 13, none⟩)) rfl (by kernel_rfl) (by kernel_rfl) (by kernel_rfl) (by kernel_rfl) (fun _ _ _ h => h) (Or.inl ⟨by rfl, fun w0 hS0 => ?_⟩) (by assumption) ?_
    · go_simp
    try simp only [Act.put, lt, l0, ls]
    refine Till.take (i := 7) (oi := ⟨some 31, .load 3 (.tmp 30), 3, "ref.go:130", #[⟨6, .data⟩], none⟩) (v := .int .i64 (x.dev)) rfl (by kernel_rfl) (by kernel_rfl) (by kernel_rfl) (by kernel_rfl) (fun _ _ _ h => h) (Or.inl ⟨by rfl, fun w0 hS0 => ?_⟩) (by assumption) ?_
    · have c := hS0.n; go_simp
    try simp only [Act.put, lt, l0, ls]
    refine Till.take (i := 8) (oi := ⟨some 32, .fieldAddr 89 (.tmp 3) 5, 0, "ref.go:130", #[], none⟩) (v := .pointer (some ⟨(w.heap.size + 1), 5, none⟩)) rfl (by kernel_rfl) (by kernel_rfl) (by kernel_rfl) (by kernel_rfl) (fun _ _ _ h => h) (Or.inl ⟨by rfl, fun w0 hS0 => ?_⟩) (by assumption) ?_
    · go_simp
    try simp only [Act.put, lt, l0, ls]
    refine Till.take (i := 9) (oi := ⟨some 33, .load 3 (.tmp 32), 3, "ref.go:130", #[⟨8, .data⟩], none⟩) (v := .int .i64 (c.a)) rfl (by kernel_rfl) (by kernel_rfl) (by kernel_rfl) (by kernel_rfl) (fun _ _ _ h => h) (Or.inl ⟨by rfl, fun w0 hS0 => ?_⟩) (by assumption) ?_
    · have c := hS0.k5; go_simp
    try simp only [Act.put, lt, l0, ls]
    refine Till.take (i := 12) (oi := ⟨some 36, .fieldAddr 89 (.tmp 3) 1, 0, "ref.go:130", #[], none⟩) (v := .pointer (some ⟨(w.heap.size + 1), 1, none⟩)) rfl (by kernel_rfl) (by kernel_rfl) (by kernel_rfl) (by kernel_rfl) (fun _ _ _ h => h) (Or.inl ⟨by rfl, fun w0 hS0 => ?_⟩) (by assumption) ?_
    · go_simp
    try simp only [Act.put, lt, l0, ls]
    refine Till.take (i := 13) (oi := ⟨some 37, .load 3 (.tmp 36), 3, "ref.go:130", #[⟨12, .data⟩], none⟩) (v := .int .i64 ((i : Int))) rfl (by kernel_rfl) (by kernel_rfl) (by kernel_rfl) (by kernel_rfl) (fun _ _ _ h => h) (Or.inl ⟨by rfl, fun w0 hS0 => ?_⟩) (by assumption) ?_
    · have c := hS0.k1; go_simp
    try simp only [Act.put, lt, l0, ls]
    refine Till.next (i := 10) (o := ⟨some 34, .call ⟨.value (.func 89), #[.tmp 33], #[3]⟩, 3, "ref.go:130", #[⟨9, .data⟩], none⟩) (by kernel_rfl) rfl (fun K hK => ?_)
    go_simp
    refine (bits_any c.a _).mono ?_
    rintro e wb ⟨rfl, rfl⟩
    go_wp2_with fail
    refine hK.out _ _ (fun _ => hHeld) ?_
    clear hK K
    try simp only [Act.put, lt, l0, ls]
    refine Till.next (i := 11) (o := ⟨some 35, .build 66 #[(0, .tmp 31), (2, .const (.int .i64 2)), (3, .tmp 34), (6, .const (.int .i64 4096)), (7, .const (.int .i64 8))], 66, "ref.go:130", #[⟨7, .data⟩, ⟨10, .data⟩], none⟩) (by kernel_rfl) rfl (fun K hK => ?_)
    go_simp
    refine hK.out _ _ (fun _ => hHeld) ?_
    clear hK K
    try simp only [Act.put, lt, l0, ls]
    refine Till.next (i := 14) (o := ⟨some 38, .call ⟨.value (.func 88), #[.tmp 24, .tmp 35, .tmp 37], #[31, 66, 3]⟩, 31, "ref.go:130", #[⟨0, .data⟩, ⟨11, .data⟩, ⟨13, .data⟩, ⟨10, .chain⟩], none⟩) (by kernel_rfl) rfl (fun K hK => ?_)
    go_simp
    refine (HADD.out _ hHeld).mono ?_
    rintro e w4 ⟨v3, rfl, ho3, hb3⟩
    obtain ⟨an3, cn3, al3, cl3, ac3, cc3, ad3, cd3, aa3, ca3, af3, cf3, rfl⟩ := rown_forms ho3
    unfold rvV
    have HO3 := Lib.hid ho3
    have HD5 := Lib.hid (hHeld.din.keep hb3)
    obtain ⟨t0, u0, t1, u1, t2, u2, t3, u3, t4, u4, t5, u5, h6, b6⟩ := six (.slice an3 (M.length + 1) cn3) (.slice al3 L.length cl3) (.slice ac3 (M.length + 1) cc3) (.slice ad3 (M.length + 1) cd3) (.slice aa3 (M.length + 1) ca3) (.slice af3 (devL M 0).length cf3) HD5.out.box
    have H6 := Lib.hid h6
    have B6 := Lib.hid b6
    clear h6 b6 ho3
    go_wp2_with fail
    refine hK.out _ _ (fun _ => SA.keep hHeld hb3) ?_
    clear hK K hb3
    try simp only [Act.put, lt, l0, ls]
    refine Till.next (i := 15) (o := ⟨none, .store 31 (.tmp 2) (.tmp 38), 0, "ref.go:130", #[⟨14, .data⟩, ⟨14, .chain⟩, ⟨0, .phase⟩, ⟨1, .phase⟩, ⟨2, .phase⟩, ⟨3, .phase⟩, ⟨4, .phase⟩, ⟨5, .phase⟩, ⟨6, .phase⟩, ⟨7, .phase⟩, ⟨8, .phase⟩, ⟨9, .phase⟩, ⟨10, .phase⟩, ⟨11, .phase⟩, ⟨12, .phase⟩, ⟨13, .phase⟩, ⟨14, .phase⟩], none⟩) (by kernel_rfl) rfl (fun K hK => ?_)
    go_simp
    refine hK.out _ _ (fun q => absurd rfl q) ?_
    clear hK K
    try simp only [Act.put, lt, l0, ls]
    refine Till.done (by kernel_rfl) ?_
    go_wp2_with fail
    go_meet
    refine ⟨rfl, ⟨.slice an3 (M.length + 1) cn3, .slice al3 L.length cl3, .slice ac3 (M.length + 1) cc3, .slice ad3 (M.length + 1) cd3, .slice aa3 (M.length + 1) ca3, .slice af3 (devL M 0).length cf3⟩, ?_, ?_⟩
    · exact HD5.out.but B6.out H6.out
    · have r := But.rown B6.out HD5.out.box HO3.out
      rw [← HNn.out]
      exact r
  case rest =>
    obtain ⟨rfl, v3, D, O⟩ := hcut
    obtain ⟨an3, cn3, al3, cl3, ac3, cc3, ad3, cd3, aa3, ca3, af3, cf3, rfl⟩ := rown_forms O
    obtain ⟨q0, q1, q2, q3, q4, q5, q6, q7⟩ := chg_cells D.chg
    rw [HT.out] at q1
    rw [HKK.out] at q0
    have p1 : wc.cell? ⟨w.heap.size, 1, none⟩ = some (.slice al3 L.length cl3) := by rw [cell_of_row _ _ _ _ _ _ D.box]; rfl
    have HD := Lib.hid D
    have HO := Lib.hid O
    clear D O hnn HC HD3 HR3
    go_upto_region 23 with fail
    have HS0 := Lib.hid (show ∀ w', Below wc.heap.size wc w' → Below wc.heap.size wc w' ∧ w'.cell? ⟨w.heap.size, 1, none⟩ = some (.slice al3 L.length cl3) ∧ w'.cell? ⟨w.heap.size + 1, 1, none⟩ = some (.int .i64 (i : Int)) ∧ w'.cell? ⟨w.heap.size + 1, 3, none⟩ = some (.string c.name) from fun w' hb => ⟨hb, cell_keep p1 hb, cell_keep q1 hb, cell_keep q3 hb⟩)
    go_cut [] from 116 to 130 (fun wx => Lng w wc.drew ⟨.slice an3 (M.length + 1) cn3, .slice al3 L.length cl3, .slice ac3 (M.length + 1) cc3, .slice ad3 (M.length + 1) cd3, .slice aa3 (M.length + 1) ca3, .slice af3 (devL M 0).length cf3⟩ c (L.length + 1) (itCells L ++ itemC (i : Int) c.name (M.length : Int)) wx)
    case first =>
      obtain ⟨i0, hi, hz0, hz1, hz2⟩ := info_parts infoItem
      have HMX := Lib.hid (show 0 + L.length ≤ maxLen from by unfold maxLen; omega)
      have HMY := Lib.hid (show 0 + L.length + 1 ≤ maxLen from by unfold maxLen; omega)
      clear p1 q0 q1 q2 q3 q4 q5 q6 q7
      refine Till.region (z := 14) (S := fun w' => Below wc.heap.size wc w' ∧ w'.cell? ⟨w.heap.size, 1, none⟩ = some (.slice al3 L.length cl3) ∧ w'.cell? ⟨w.heap.size + 1, 1, none⟩ = some (.int .i64 (i : Int)) ∧ w'.cell? ⟨w.heap.size + 1, 3, none⟩ = some (.string c.name)) (by kernel_rfl) (HS0.out _ (Below.refl _ _).drew) (fun hHeld => ?_)
      have HDr := Lib.hid HD.out.drew
      have HOr := Lib.hid (show wc.drew.ownsRow 0 179 3 (.slice al3 L.length cl3) L.length (itCells L) from owns_keep HO.out.2.1 (Below.refl _ _).drew)
      have HS := Lib.hid (show ∀ w', Below wc.drew.heap.size wc.drew w' → Below wc.heap.size wc w' ∧ w'.cell? ⟨w.heap.size, 1, none⟩ = some (.slice al3 L.length cl3) ∧ w'.cell? ⟨w.heap.size + 1, 1, none⟩ = some (.int .i64 (i : Int)) ∧ w'.cell? ⟨w.heap.size + 1, 3, none⟩ = some (.string c.name) from fun w' hb => HS0.out _ ((Below.refl _ _).drew.trans hb))
      generalize hwr : wc.drew = wr at HDr HOr HS hHeld ⊢
      have HWR := Lib.hid hwr
      clear hwr
      have HL1 := Lib.hid (show ∀ o, (wr.alloc o).ownsRow 0 179 3 (.slice al3 L.length cl3) L.length (itCells L) from fun o => HOr.out.alloc o)
      have HL2 := Lib.hid (show ∀ o o', ((wr.alloc o).alloc o').ownsRow 0 179 3 (.slice al3 L.length cl3) L.length (itCells L) from fun o o' => (HOr.out.alloc o).alloc o')
      refine Till.take (i := 1) (oi := ⟨some 117, .fieldAddr 31 (.tmp 2) 1, 0, "ref.go:148", #[], none⟩) (v := .pointer (some ⟨w.heap.size, 1, none⟩)) rfl (by kernel_rfl) (by kernel_rfl) (by kernel_rfl) (by kernel_rfl) (fun _ _ _ h => h) (Or.inl ⟨by rfl, fun w0 hS0 => ?_⟩) (by assumption) ?_
      · go_simp
      try simp only [Act.put, lt, l0, ls]
      refine Till.take (i := 2) (oi := ⟨some 118, .load 27 (.tmp 117), 27, "ref.go:148", #[⟨1, .data⟩], none⟩) (v := .slice al3 L.length cl3) rfl (by kernel_rfl) (by kernel_rfl) (by kernel_rfl) (by kernel_rfl) (fun _ _ _ h => h) (Or.inl ⟨by rfl, fun w0 hS0 => ?_⟩) (by assumption) ?_
      · have c := hS0.2.1; go_simp
      try simp only [Act.put, lt, l0, ls]
      refine Till.take (i := 4) (oi := ⟨some 120, .fieldAddr 89 (.tmp 3) 1, 0, "ref.go:148", #[], none⟩) (v := .pointer (some ⟨(w.heap.size + 1), 1, none⟩)) rfl (by kernel_rfl) (by kernel_rfl) (by kernel_rfl) (by kernel_rfl) (fun _ _ _ h => h) (Or.inl ⟨by rfl, fun w0 hS0 => ?_⟩) (by assumption) ?_
      · go_simp
      try simp only [Act.put, lt, l0, ls]
      refine Till.take (i := 5) (oi := ⟨some 121, .load 3 (.tmp 120), 3, "ref.go:148", #[⟨4, .data⟩], none⟩) (v := .int .i64 (i : Int)) rfl (by kernel_rfl) (by kernel_rfl) (by kernel_rfl) (by kernel_rfl) (fun _ _ _ h => h) (Or.inl ⟨by rfl, fun w0 hS0 => ?_⟩) (by assumption) ?_
      · have c := hS0.2.2.1; go_simp
      try simp only [Act.put, lt, l0, ls]
      refine Till.take (i := 6) (oi := ⟨some 122, .fieldAddr 89 (.tmp 3) 3, 0, "ref.go:148", #[], none⟩) (v := .pointer (some ⟨(w.heap.size + 1), 3, none⟩)) rfl (by kernel_rfl) (by kernel_rfl) (by kernel_rfl) (by kernel_rfl) (fun _ _ _ h => h) (Or.inl ⟨by rfl, fun w0 hS0 => ?_⟩) (by assumption) ?_
      · go_simp
      try simp only [Act.put, lt, l0, ls]
      refine Till.take (i := 7) (oi := ⟨some 123, .load 9 (.tmp 122), 9, "ref.go:148", #[⟨6, .data⟩], none⟩) (v := .string c.name) rfl (by kernel_rfl) (by kernel_rfl) (by kernel_rfl) (by kernel_rfl) (fun _ _ _ h => h) (Or.inl ⟨by rfl, fun w0 hS0 => ?_⟩) (by assumption) ?_
      · have c := hS0.2.2.2; go_simp
      try simp only [Act.put, lt, l0, ls]
      refine Till.take (i := 8) (oi := ⟨some 124, .move (.tmp 8), 3, "ref.go:148", #[], none⟩) (v := .int .i64 (M.length : Int)) rfl (by kernel_rfl) (by kernel_rfl) (by kernel_rfl) (by kernel_rfl) (fun _ _ _ h => h) (Or.inl ⟨by rfl, fun w0 hS0 => ?_⟩) (by assumption) ?_
      · go_simp
      try simp only [Act.put, lt, l0, ls]
      refine Till.take (i := 9) (oi := ⟨some 125, .build 177 #[(0, .tmp 123), (1, .tmp 124)], 177, "ref.go:148", #[⟨7, .data⟩, ⟨8, .data⟩], none⟩) (v := .agg #[.string c.name, .int .i64 (M.length : Int)]) rfl (by kernel_rfl) (by kernel_rfl) (by kernel_rfl) (by kernel_rfl) (fun _ _ _ h => h) (Or.inl ⟨by rfl, fun w0 hS0 => ?_⟩) (by assumption) ?_
      · go_simp
      try simp only [Act.put, lt, l0, ls]
      refine Till.take (i := 10) (oi := ⟨some 126, .build 179 #[(0, .tmp 121), (1, .tmp 125)], 179, "ref.go:148", #[⟨5, .data⟩, ⟨9, .data⟩], none⟩) (v := .agg #[.int .i64 (i : Int), .string c.name, .int .i64 (M.length : Int)]) rfl (by kernel_rfl) (by kernel_rfl) (by kernel_rfl) (by kernel_rfl) (fun _ _ _ h => h) (Or.inl ⟨by rfl, fun w0 hS0 => ?_⟩) (by assumption) ?_
      · go_simp
      try simp only [Act.put, lt, l0, ls]
      refine Till.two (i := 0) (j := 11) (o := ⟨some 116, .buildSlice 27 0 #[], 27, "ref.go:148", #[], none⟩) (o' := ⟨some 127, .buildSlice 27 1 #[(0, .tmp 126)], 27, "ref.go:148", #[⟨10, .data⟩], none⟩) (by kernel_rfl) rfl rfl (fun K hK => ?_) (fun K hK => ?_)
      · go_simp
        refine hK.out _ _ (fun _ => HS.out _ ((Below.refl _ _).alloc (Nat.le_refl _) _)) ?_
        clear hK K
        try simp only [Act.put, lt, l0, ls]
        refine Till.two (i := 3) (j := 11) (o := ⟨some 119, .call ⟨.builtin .append, #[.tmp 116, .tmp 118], #[27, 27]⟩, 27, "ref.go:148", #[⟨0, .data⟩, ⟨2, .data⟩], none⟩) (o' := ⟨some 127, .buildSlice 27 1 #[(0, .tmp 126)], 27, "ref.go:148", #[⟨10, .data⟩], none⟩) (by kernel_rfl) rfl rfl (fun K hK => ?_) (fun K hK => ?_)
        · refine step_append_row rfl (.tmp 116) (.tmp 118) 27 rfl wr.heap.size 179 i0 _ 3 32 Tryz.underlying27 hi hz0 hz1 hz2 rfl (by decide) (.slice (some ⟨wr.heap.size, 0, none⟩) 0 0) 0 [] (by simp [Act.eval]) (owns_made (Nat.le_refl _)) (.slice al3 L.length cl3) L.length (itCells L) (by simp [Act.eval]) (HL1.out _) (its_one L) HMX.out (by omega) (by simp <;> omega) ?_
          intro v1 w1 hown1 hg1
          refine hK.out _ _ (fun _ => HS.out _ (grown_below ((Below.refl _ _).alloc (Nat.le_refl _) _) hg1 (own_ge (owns_made (e := 179) (size := 3) (Nat.le_refl wr.heap.size))) (by simp))) ?_
          clear hK K
          have hB1 : Below wr.heap.size wr w1 := grown_below ((Below.refl _ _).alloc (Nat.le_refl _) _) hg1 (own_ge (owns_made (e := 179) (size := 3) (Nat.le_refl wr.heap.size))) (by simp)
          have hHeld1 := HS.out _ hB1
          try simp only [Act.put, lt, l0, ls]
          refine Till.next (i := 11) (o := ⟨some 127, .buildSlice 27 1 #[(0, .tmp 126)], 27, "ref.go:148", #[⟨10, .data⟩], none⟩) (by kernel_rfl) rfl (fun K hK => ?_)
          go_simp
          refine hK.out _ _ (fun _ => HS.out _ (hB1.alloc hB1.size _)) ?_
          clear hK K
          try simp only [Act.put, lt, l0, ls]
          refine Till.next (i := 12) (o := ⟨some 128, .call ⟨.builtin .append, #[.tmp 119, .tmp 127], #[27, 27]⟩, 27, "ref.go:148", #[⟨3, .data⟩, ⟨11, .data⟩, ⟨3, .chain⟩], none⟩) (by kernel_rfl) rfl (fun K hK => ?_)
          refine step_append_row rfl (.tmp 119) (.tmp 127) 27 rfl wr.heap.size 179 i0 _ 3 32 Tryz.underlying27 hi hz0 hz1 hz2 rfl (by decide) v1 (0 + L.length) ([] ++ itCells L) (by simp [Act.eval]) (hown1.alloc _) (.slice (some ⟨w1.heap.size, 0, none⟩) 1 1) 1 (itemC (i : Int) c.name (M.length : Int)) (by simp [Act.eval]) (owns_single 3 rfl) (itemC_one _ _ _) HMY.out (by omega) (by have := hg1.size; simp at this ⊢; omega) ?_
          intro v2 w2 hown2 hg2
          obtain ⟨g2, cap2, rfl, _, _⟩ := owns_some hown2 (by omega)
          have R := lng_a HDr.out hg1 hown1 hown2 hg2
          have q2 := R.1
          have q3 := R.2.1
          have HR2 := Lib.hid R.2.2
          clear R
          refine hK.out _ _ (fun _ => HS.out _ (grown_below (hB1.alloc hB1.size _) hg2 (own_ge hown1) (by have := hB1.size; simp; omega))) ?_
          clear hK K
          have hHeld2 := HS.out _ (grown_below (hB1.alloc hB1.size _) hg2 (own_ge hown1) (by have := hB1.size; simp; omega))
          try simp only [Act.put, lt, l0, ls]
          refine Till.take (i := 13) (oi := ⟨some 129, .fieldAddr 31 (.tmp 2) 1, 0, "ref.go:148", #[⟨0, .phase⟩, ⟨1, .phase⟩, ⟨2, .phase⟩, ⟨3, .phase⟩, ⟨4, .phase⟩, ⟨5, .phase⟩, ⟨6, .phase⟩, ⟨7, .phase⟩, ⟨8, .phase⟩, ⟨9, .phase⟩, ⟨10, .phase⟩, ⟨11, .phase⟩, ⟨12, .phase⟩], none⟩) (v := .pointer (some ⟨w.heap.size, 1, none⟩)) rfl (by kernel_rfl) (by kernel_rfl) (by kernel_rfl) (by kernel_rfl) (fun _ _ _ h => h) (Or.inl ⟨by rfl, fun w0 hS0 => ?_⟩) (by assumption) ?_
          · go_simp
          try simp only [Act.put, lt, l0, ls]
          refine Till.next (i := 14) (o := ⟨none, .store 27 (.tmp 129) (.tmp 128), 0, "ref.go:148", #[⟨13, .data⟩, ⟨12, .data⟩, ⟨12, .chain⟩, ⟨0, .phase⟩, ⟨1, .phase⟩, ⟨2, .phase⟩, ⟨3, .phase⟩, ⟨4, .phase⟩, ⟨5, .phase⟩, ⟨6, .phase⟩, ⟨7, .phase⟩, ⟨8, .phase⟩, ⟨9, .phase⟩, ⟨10, .phase⟩, ⟨11, .phase⟩, ⟨12, .phase⟩], none⟩) (by kernel_rfl) rfl (fun K hK => ?_)
          go_simp
          refine hK.out _ _ (fun q => absurd rfl q) ?_
          clear hK K
          try simp only [Act.put, lt, l0, ls]
          refine Till.done (by kernel_rfl) ?_
          go_wp2_with fail
          go_meet
          rw [HWR.out]; exact HR2.out
        · go_simp
          refine hK.out _ _ (fun _ => HS.out _ (((Below.refl _ _).alloc (Nat.le_refl _) _).alloc (by simp) _)) ?_
          clear hK K
          try simp only [Act.put, lt, l0, ls]
          refine Till.next (i := 3) (o := ⟨some 119, .call ⟨.builtin .append, #[.tmp 116, .tmp 118], #[27, 27]⟩, 27, "ref.go:148", #[⟨0, .data⟩, ⟨2, .data⟩], none⟩) (by kernel_rfl) rfl (fun K hK => ?_)
          refine step_append_row rfl (.tmp 116) (.tmp 118) 27 rfl wr.heap.size 179 i0 _ 3 32 Tryz.underlying27 hi hz0 hz1 hz2 rfl (by decide) (.slice (some ⟨wr.heap.size, 0, none⟩) 0 0) 0 [] (by simp [Act.eval]) ((owns_made (Nat.le_refl _)).alloc _) (.slice al3 L.length cl3) L.length (itCells L) (by simp [Act.eval]) (HL2.out _ _) (its_one L) HMX.out (by omega) (by simp <;> omega) ?_
          intro v1 w1 hown1 hg1
          have hd1 : ∀ j, (Value.slice (some ⟨wr.heap.size, 0, none⟩) 0 0).ownBlock = some j → wr.heap.size ≤ j := fun j => one_ge (Nat.le_refl _)
          have hB1 : Below wr.heap.size wr w1 := grown_below (((Below.refl _ _).alloc (Nat.le_refl _) _).alloc (by simp) _) hg1 hd1 (by simp; omega)
          have hHeld1 := HS.out _ hB1
          refine hK.out _ _ (fun _ => hHeld1) ?_
          clear hK K
          try simp only [Act.put, lt, l0, ls]
          refine Till.next (i := 12) (o := ⟨some 128, .call ⟨.builtin .append, #[.tmp 119, .tmp 127], #[27, 27]⟩, 27, "ref.go:148", #[⟨3, .data⟩, ⟨11, .data⟩, ⟨3, .chain⟩], none⟩) (by kernel_rfl) rfl (fun K hK => ?_)
          refine step_append_row rfl (.tmp 119) (.tmp 127) 27 rfl wr.heap.size 179 i0 _ 3 32 Tryz.underlying27 hi hz0 hz1 hz2 rfl (by decide) v1 (0 + L.length) ([] ++ itCells L) (by simp [Act.eval]) (hown1) (.slice (some ⟨wr.heap.size + 1, 0, none⟩) 1 1) 1 (itemC (i : Int) c.name (M.length : Int)) (by simp [Act.eval]) (row_b (xs := itemC (i : Int) c.name (M.length : Int)) rfl hg1 (by rw [own_some]; simp)) (itemC_one _ _ _) HMY.out (by omega) (by have := hg1.size; simp at this ⊢; omega) ?_
          intro v2 w2 hown2 hg2
          obtain ⟨g2, cap2, rfl, _, _⟩ := owns_some hown2 (by omega)
          have R := lng_b HDr.out hg1 hd1 hown1 hown2 hg2
          have q2 := R.1
          have q3 := R.2.1
          have HR2 := Lib.hid R.2.2
          clear R
          refine hK.out _ _ (fun _ => HS.out _ (grown_below hB1 hg2 (own_ge hown1) (by have := hB1.size; omega))) ?_
          clear hK K
          have hHeld2 := HS.out _ (grown_below hB1 hg2 (own_ge hown1) (by have := hB1.size; omega))
          try simp only [Act.put, lt, l0, ls]
          refine Till.take (i := 13) (oi := ⟨some 129, .fieldAddr 31 (.tmp 2) 1, 0, "ref.go:148", #[⟨0, .phase⟩, ⟨1, .phase⟩, ⟨2, .phase⟩, ⟨3, .phase⟩, ⟨4, .phase⟩, ⟨5, .phase⟩, ⟨6, .phase⟩, ⟨7, .phase⟩, ⟨8, .phase⟩, ⟨9, .phase⟩, ⟨10, .phase⟩, ⟨11, .phase⟩, ⟨12, .phase⟩], none⟩) (v := .pointer (some ⟨w.heap.size, 1, none⟩)) rfl (by kernel_rfl) (by kernel_rfl) (by kernel_rfl) (by kernel_rfl) (fun _ _ _ h => h) (Or.inl ⟨by rfl, fun w0 hS0 => ?_⟩) (by assumption) ?_
          · go_simp
          try simp only [Act.put, lt, l0, ls]
          refine Till.next (i := 14) (o := ⟨none, .store 27 (.tmp 129) (.tmp 128), 0, "ref.go:148", #[⟨13, .data⟩, ⟨12, .data⟩, ⟨12, .chain⟩, ⟨0, .phase⟩, ⟨1, .phase⟩, ⟨2, .phase⟩, ⟨3, .phase⟩, ⟨4, .phase⟩, ⟨5, .phase⟩, ⟨6, .phase⟩, ⟨7, .phase⟩, ⟨8, .phase⟩, ⟨9, .phase⟩, ⟨10, .phase⟩, ⟨11, .phase⟩, ⟨12, .phase⟩], none⟩) (by kernel_rfl) rfl (fun K hK => ?_)
          go_simp
          refine hK.out _ _ (fun q => absurd rfl q) ?_
          clear hK K
          try simp only [Act.put, lt, l0, ls]
          refine Till.done (by kernel_rfl) ?_
          go_wp2_with fail
          go_meet
          rw [HWR.out]; exact HR2.out
      · go_simp
        refine hK.out _ _ (fun _ => HS.out _ ((Below.refl _ _).alloc (Nat.le_refl _) _)) ?_
        clear hK K
        try simp only [Act.put, lt, l0, ls]
        refine Till.next (i := 0) (o := ⟨some 116, .buildSlice 27 0 #[], 27, "ref.go:148", #[], none⟩) (by kernel_rfl) rfl (fun K hK => ?_)
        go_simp
        refine hK.out _ _ (fun _ => HS.out _ (((Below.refl _ _).alloc (Nat.le_refl _) _).alloc (by simp) _)) ?_
        clear hK K
        try simp only [Act.put, lt, l0, ls]
        refine Till.next (i := 3) (o := ⟨some 119, .call ⟨.builtin .append, #[.tmp 116, .tmp 118], #[27, 27]⟩, 27, "ref.go:148", #[⟨0, .data⟩, ⟨2, .data⟩], none⟩) (by kernel_rfl) rfl (fun K hK => ?_)
        refine step_append_row rfl (.tmp 116) (.tmp 118) 27 rfl wr.heap.size 179 i0 _ 3 32 Tryz.underlying27 hi hz0 hz1 hz2 rfl (by decide) (.slice (some ⟨wr.heap.size + 1, 0, none⟩) 0 0) 0 [] (by simp [Act.eval]) (own_c wr _) (.slice al3 L.length cl3) L.length (itCells L) (by simp [Act.eval]) (HL2.out _ _) (its_one L) HMX.out (by omega) (by simp <;> omega) ?_
        intro v1 w1 hown1 hg1
        have hd1 : ∀ j, (Value.slice (some ⟨wr.heap.size + 1, 0, none⟩) 0 0).ownBlock = some j → wr.heap.size ≤ j := fun j => one_ge (by omega)
        have hB1 : Below wr.heap.size wr w1 := grown_below (((Below.refl _ _).alloc (Nat.le_refl _) _).alloc (by simp) _) hg1 hd1 (by simp; omega)
        have hHeld1 := HS.out _ hB1
        refine hK.out _ _ (fun _ => hHeld1) ?_
        clear hK K
        try simp only [Act.put, lt, l0, ls]
        refine Till.next (i := 12) (o := ⟨some 128, .call ⟨.builtin .append, #[.tmp 119, .tmp 127], #[27, 27]⟩, 27, "ref.go:148", #[⟨3, .data⟩, ⟨11, .data⟩, ⟨3, .chain⟩], none⟩) (by kernel_rfl) rfl (fun K hK => ?_)
        refine step_append_row rfl (.tmp 119) (.tmp 127) 27 rfl wr.heap.size 179 i0 _ 3 32 Tryz.underlying27 hi hz0 hz1 hz2 rfl (by decide) v1 (0 + L.length) ([] ++ itCells L) (by simp [Act.eval]) (hown1) (.slice (some ⟨wr.heap.size, 0, none⟩) 1 1) 1 (itemC (i : Int) c.name (M.length : Int)) (by simp [Act.eval]) (row_c (xs := itemC (i : Int) c.name (M.length : Int)) rfl hg1 (by rw [own_some]; simp)) (itemC_one _ _ _) HMY.out (by omega) (by have := hg1.size; simp at this ⊢; omega) ?_
        intro v2 w2 hown2 hg2
        obtain ⟨g2, cap2, rfl, _, _⟩ := owns_some hown2 (by omega)
        have R := lng_b HDr.out hg1 hd1 hown1 hown2 hg2
        have q2 := R.1
        have q3 := R.2.1
        have HR2 := Lib.hid R.2.2
        clear R
        refine hK.out _ _ (fun _ => HS.out _ (grown_below hB1 hg2 (own_ge hown1) (by have := hB1.size; omega))) ?_
        clear hK K
        have hHeld2 := HS.out _ (grown_below hB1 hg2 (own_ge hown1) (by have := hB1.size; omega))
        try simp only [Act.put, lt, l0, ls]
        refine Till.take (i := 13) (oi := ⟨some 129, .fieldAddr 31 (.tmp 2) 1, 0, "ref.go:148", #[⟨0, .phase⟩, ⟨1, .phase⟩, ⟨2, .phase⟩, ⟨3, .phase⟩, ⟨4, .phase⟩, ⟨5, .phase⟩, ⟨6, .phase⟩, ⟨7, .phase⟩, ⟨8, .phase⟩, ⟨9, .phase⟩, ⟨10, .phase⟩, ⟨11, .phase⟩, ⟨12, .phase⟩], none⟩) (v := .pointer (some ⟨w.heap.size, 1, none⟩)) rfl (by kernel_rfl) (by kernel_rfl) (by kernel_rfl) (by kernel_rfl) (fun _ _ _ h => h) (Or.inl ⟨by rfl, fun w0 hS0 => ?_⟩) (by assumption) ?_
        · go_simp
        try simp only [Act.put, lt, l0, ls]
        refine Till.next (i := 14) (o := ⟨none, .store 27 (.tmp 129) (.tmp 128), 0, "ref.go:148", #[⟨13, .data⟩, ⟨12, .data⟩, ⟨12, .chain⟩, ⟨0, .phase⟩, ⟨1, .phase⟩, ⟨2, .phase⟩, ⟨3, .phase⟩, ⟨4, .phase⟩, ⟨5, .phase⟩, ⟨6, .phase⟩, ⟨7, .phase⟩, ⟨8, .phase⟩, ⟨9, .phase⟩, ⟨10, .phase⟩, ⟨11, .phase⟩, ⟨12, .phase⟩], none⟩) (by kernel_rfl) rfl (fun K hK => ?_)
        go_simp
        refine hK.out _ _ (fun q => absurd rfl q) ?_
        clear hK K
        try simp only [Act.put, lt, l0, ls]
        refine Till.done (by kernel_rfl) ?_
        go_wp2_with fail
        go_meet
        rw [HWR.out]; exact HR2.out
    case rest =>
      obtain ⟨g4, cap4, D4, O4, B4⟩ := hcut
      obtain ⟨u0, u1, u2, u3, u4, u5, u6, u7⟩ := chg_cells D4.chg
      rw [HKK.out] at u0
      have HB8 := Lib.hid D4.box
      have hr8 := D4.res
      unfold nilsR at hr8
      have HR8 := Lib.hid hr8
      have HD8 := Lib.hid D4
      have O' := HO.out
      have hbx := HD.out.drew.box
      have HRO := Lib.hid (rown_mk ⟨.slice an3 (M.length + 1) cn3, .slice (some ⟨g4, 0, none⟩) (L.length + 1) cap4, .slice ac3 (M.length + 1) cc3, .slice ad3 (M.length + 1) cd3, .slice aa3 (M.length + 1) ca3, .slice af3 (devL M 0).length cf3⟩
        (B4.owns (owns_keep O'.1 (Below.refl _ _).drew) hbx (by decide)) (mL := (L ++ [⟨(i : Int), c.name, (M.length : Int)⟩] : List It).length) (xL := itCells (L ++ [⟨(i : Int), c.name, (M.length : Int)⟩])) (by rw [List.length_append, itCells_more]; exact O4) (B4.owns (owns_keep O'.2.2.1 (Below.refl _ _).drew) hbx (by decide)) (B4.owns (owns_keep O'.2.2.2.1 (Below.refl _ _).drew) hbx (by decide)) (B4.owns (owns_keep O'.2.2.2.2.1 (Below.refl _ _).drew) hbx (by decide)) (B4.owns (owns_keep O'.2.2.2.2.2 (Below.refl _ _).drew) hbx (by decide)))
      clear D4 O4 B4 hr8 O' hbx p1 q0 q1 q2 q3 q4 q5 q6 q7 HS0
      go_wp2_with (first
        | fail
        | (refine wpList_load_row rfl 31 (.tmp 2) rfl w.heap.size rfl _ _ _ _ HB8.out Tryz.underlying31 rfl (by rw [sizeRef]; rfl) ?_)
        | (refine wpList_store_row rfl 31 (.tmp 4) (.tmp 133) rfl (w.heap.size + 1 + 1) _ rfl rfl _ _ HR8.out sizeRef rfl (one6 _ _ _ _ _ _ _ _ _ _ _ _ _ _ _ _ _ _) ?_))
      have hrs := Rs.of_add (n := dirNd (c.a % 4096) (i : Int)) (d := x.dev) rfl (cntD_ne HX.out) (by have e := HRO.out; rw [← HNn.out] at e; exact e)
      refine bodyPost_ret (v := .tuple #[.agg #[.slice an3 (M.length + 1) cn3, .slice (some ⟨g4, 0, none⟩) (L.length + 1) cap4, .slice ac3 (M.length + 1) cc3, .slice ad3 (M.length + 1) cd3, .slice aa3 (M.length + 1) ca3, .slice af3 (devL M 0).length cf3], .int .i64 (M.length : Int), .int .i64 0]) ?_ rfl ⟨⟨.slice an3 (M.length + 1) cn3, .slice (some ⟨g4, 0, none⟩) (L.length + 1) cap4, .slice ac3 (M.length + 1) cc3, .slice ad3 (M.length + 1) cd3, .slice aa3 (M.length + 1) ca3, .slice af3 (devL M 0).length cf3⟩, L ++ [⟨(i : Int), c.name, (M.length : Int)⟩], ?_, ?_, ?_, by simp, ?_⟩
      · exact results_do rfl (setRow_heap _ _ _ _ _ _ HR8.out) rfl
      · rw [HRs.out.2, HW.out]; rfl
      · rw [HRs.out.1]
        exact (but_setRow HR8.out _).rs HR8.out (hrs.seen seen_built)
      · rw [HRs.out.1]
        exact R.built hil rfl
      · exact (but_setRow HR8.out _).below HD8.out.below (by omega) HD8.out.below.size
end Go.Proofs.YtknfhphhcnbndaaGreatDoor.V
