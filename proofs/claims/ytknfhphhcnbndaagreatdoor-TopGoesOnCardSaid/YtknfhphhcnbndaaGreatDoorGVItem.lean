/-
  What the reference's wrong returns: what is wrong with a change, by the model. Conditions: at most 1000000 nodes and entries, texts of at most 1000000 bytes; the reference's entries are the model's.
  What the reference's Do has in hand; a refused change. Conditions: at most 1000000 nodes and entries, texts of at most 1000000 bytes.
  A slice of the reference's copied and stored into its box; a store into the copied nodes. Conditions: none.
  What a change that sets something makes, of the model and of the reference's slices. Conditions: none.
  How the list of entries goes with the nodes, where a change makes a node or an entry. Conditions: none.
  A region that draws its order, whose operation number z waits for others and may write what they read: what is said of the world (S) holds till z comes up, and no longer; what waits ahead of z may be taken first under S. Conditions: each law's own.
  The entries copied, lengthened by one and stored into the box. Conditions: none.
-/
import Derived.Test.YtknfhphhcnbndaaGreatDoorGVRefWr0
import Derived.Test.YtknfhphhcnbndaaGreatDoorGVRefWr1
import Derived.Test.YtknfhphhcnbndaaGreatDoorGVRefWr2
import Derived.Test.YtknfhphhcnbndaaGreatDoorGVRefWr3
import Derived.Test.YtknfhphhcnbndaaGreatDoorGVRefWr7
import Derived.Deep.CutBlock
import Derived.Test.YtknfhphhcnbndaaGreatDoorGVAsk
import Derived.Deep.RegionHeld3
set_option linter.unusedSimpArgs false
set_option linter.unusedVariables false
namespace Go.Proofs.YtknfhphhcnbndaaGreatDoor.V
open Go.RowKit

/-- The list of entries has what the nodes' have; what covers is no number below 0. -/
structure Rel (M : List Nd) (L : List It) : Prop where
  ents : ∀ (i : Nat) (x : Nd), M[i]? = some x → x.ents = (L.filter fun e => e.at_ == (i : Int)).map fun e => (e.name, e.id)
  over : ∀ x ∈ M, 0 ≤ x.over
  at_ : ∀ e ∈ L, 0 ≤ e.at_ ∧ e.at_ < (M.length : Int)
  id : ∀ e ∈ L, 0 ≤ e.id ∧ e.id < (M.length : Int)
theorem Rel.has {M : List Nd} {L : List It} (h : Rel M L) (s : ByteArray) (a : Int) (x : Nd) (hx : atM M a = some x) : hasEnt s x.ents = itHas L a s := by
  obtain ⟨i, rfl, hi⟩ := atM_some hx
  rw [h.ents i x hi]
  unfold hasEnt itHas
  rw [List.any_map, List.any_filter]
  rfl

theorem rwrong_any (M : List Nd) (L : List It) (v : Rv) (c : Chg) (w : World) (H : Rs M L v w) (R : Rel M L) (hM : M.length ≤ 1000000) (hL : L.length ≤ 1000000) (hn : 0 < M.length) (hs : c.name.size ≤ 1000000) (hts : c.text.size ≤ 1000000) :
    Calls Tryz.prog 87 #[rvV v, chgV c] w fun e w' => e = .returned (.int .i64 (wrongM M c)) ∧ Below w.heap.size w w' := by
  by_cases hb : c.kind < 0 ∨ 8 < c.kind
  · exact wrB_any M L v c w H hn hb
  · by_cases h4 : 4 ≤ c.kind
    · by_cases h7 : c.kind = 7
      · exact wr7_any M L v c w H hM hn h7 R.over
      · exact wrN_any M L v c w H hM hn h4 (by omega) (fun e => absurd e h7)
    · have hk : c.kind = 0 ∨ c.kind = 1 ∨ c.kind = 2 ∨ c.kind = 3 := by omega
      rcases hk with hk | hk | hk | hk
      · exact wr0_any M L v c w H hM hL hn hk hs hts (R.has c.name c.at_)
      · exact wr1_any M L v c w H hM hL hn hk hs hts (R.has c.name c.at_)
      · exact wr2_any M L v c w H hM hL hn hk hs hts (R.has c.name c.at_)
      · exact wr3_any M L v c w H hM hL hn hk hs hts (R.has c.name c.at_)
end Go.Proofs.YtknfhphhcnbndaaGreatDoor.V

namespace Go.Proofs.YtknfhphhcnbndaaGreatDoor.V
open Go.RowKit

structure DIn (W : World) (v : Rv) (c : Chg) (w : World) : Prop where
  box : w.heap[W.heap.size]? = some (.cells #[v.n, v.l, v.c, v.d, v.a, v.f] 31 (0, 0))
  chg : w.heap[W.heap.size + 1]? = some (chgBox c)
  res : w.heap[W.heap.size + 1 + 1]? = some (.cells nilsR 31 (0, 0))
  below : Below W.heap.size W w
theorem DIn.begin (W : World) (v : Rv) (c : Chg) : DIn W v c (((W.alloc (.cells #[v.n, v.l, v.c, v.d, v.a, v.f] 31)).alloc (chgBox c)).alloc (.cells nilsR 31)) := by
  obtain ⟨q0, q1, q2⟩ := heap3 W (.cells #[v.n, v.l, v.c, v.d, v.a, v.f] 31) (chgBox c) (.cells nilsR 31)
  exact ⟨q0, q1, q2, (((Below.refl _ _).alloc (Nat.le_refl _) _).alloc (by simp) _).alloc (by simp; omega) _⟩
theorem DIn.keep {W : World} {v : Rv} {c : Chg} {w w' : World} (h : DIn W v c w) (hb : Below w.heap.size w w') : DIn W v c w' :=
  ⟨box_keep2 h.box hb, box_keep2 h.chg hb, box_keep2 h.res hb, below_two h.below hb⟩
theorem DIn.drewN {W : World} {v : Rv} {c : Chg} {w : World} (h : DIn W v c w) (n : Nat) : DIn W v c (w.drewN n) := ⟨h.box, h.chg, h.res, below_drewN' h.below⟩
theorem DIn.but {W w w' : World} {v v' : Rv} {c : Chg} (h : DIn W v c w) (hb : But W.heap.size w w') (hx : w'.heap[W.heap.size]? = some (.cells #[v'.n, v'.l, v'.c, v'.d, v'.a, v'.f] 31 (0, 0))) : DIn W v' c w' :=
  ⟨hx, (hb.block _ (heap_lt h.chg) (by omega)).trans h.chg, (hb.block _ (heap_lt h.res) (by omega)).trans h.res, hb.below h.below (Nat.le_refl _) h.below.size⟩
theorem sizeChg : (Tryz.prog.info? 89).map (·.size) = some 8 := by kernel_rfl
theorem But.rs {b : Nat} {w w' : World} (h : But b w w') {M : List Nd} {L : List It} {v : Rv} {arr : Array Value} (hb : w.heap[b]? = some (.cells arr 31 (0, 0))) (H : Rs M L v w) : Rs M L v w' :=
  ⟨h.owns H.hn hb (by decide), h.owns H.hl hb (by decide), h.owns H.hc hb (by decide), h.owns H.hd hb (by decide), h.owns H.ha hb (by decide), h.owns H.hf hb (by decide)⟩
/-- What Do returns: the reference's file system behind the change, the node, the error. -/
def RDoP (M : List Nd) (L : List It) (c : Chg) (w : World) (e : Ending) (w' : World) : Prop :=
  ∃ v' L', e = .returned (.tuple #[rvV v', .int .i64 (doR M c), .int .i64 (wrongM M c)]) ∧ Rs (doM M c) L' v' w' ∧ Rel (doM M c) L' ∧ L'.length ≤ L.length + 1 ∧ Below w.heap.size w w'
theorem results_do {tmps : Array Value} {w : World} {g : Nat} {cs : Array Value} {T : TypeId} {fr : Nat × Nat} (h4 : tmps.getD 4 undef = .pointer (some ⟨g, 0, none⟩)) (hg : w.heap[g]? = some (.cells cs T fr)) (hs : cs.size = 6) :
    (results Tryz.f41 tmps).run Tryz.prog w = .ok (.tuple #[.agg cs, tmps.getD 5 undef, tmps.getD 6 undef]) w := by
  have hp' : tmps[4]?.getD undef = .pointer (some ⟨g, 0, none⟩) := by simpa using h4
  have hl := run_loadVar_row (P := Tryz.prog) w g T 31 cs fr _ hg Tryz.underlying31 rfl (by rw [sizeRef, hs])
  simp [results, hp', asAddr, hl]

set_option maxRecDepth 100000 in
set_option maxHeartbeats 8000000 in
theorem rdo_refused (M : List Nd) (L : List It) (v : Rv) (c : Chg) (w : World) (H : Rs M L v w) (R : Rel M L) (hM : M.length ≤ 1000000) (hL : L.length ≤ 1000000) (hn : 0 < M.length) (hs : c.name.size ≤ 1000000) (hts : c.text.size ≤ 1000000) (hw : wrongM M c ≠ 0) :
    Calls Tryz.prog 41 #[rvV v, chgV c] w (RDoP M L c w) := by
  have HC := Lib.hid (fun w' hb => rwrong_any M L v c w' (H.keep hb) R hM hL hn hs hts)
  have HH := Lib.hid H
  have D0 := DIn.begin w v c
  have t1 : (wrongM M c != 0) = true := by simp [hw]
  have HRs := Lib.hid (show doM M c = M ∧ doR M c = 0 by unfold doM doR; rw [if_neg hw, if_neg hw]; exact ⟨rfl, rfl⟩)
  clear hw
  obtain ⟨e, he⟩ : ∃ e, wrongM M c = e := ⟨_, rfl⟩
  rw [he] at HC t1
  have HE := Lib.hid he
  clear he
  obtain ⟨an, cn, al, cl, ac, cc, ad, cd, aa, ca, af, cf, rfl⟩ := H.forms
  unfold chgBox nilsR at D0
  unfold rvV chgV at HC
  unfold rvV chgV
  go_enter Tryz.func41, Tryz.ntmps41
  go_upto_region 1 with fail
  generalize hw2 : ((w.alloc _).alloc _).alloc _ = w2 at D0
  clear hw2
  have HD := Lib.hid D0
  have hb0 := D0.box
  have hc0 := D0.chg
  unfold chgBox at hc0
  have HB0 := Lib.hid hb0
  have HC0 := Lib.hid hc0
  clear hb0 hc0 D0
  go_wp2_with (first
    | fail
    | (refine wpList_load_row rfl 31 (.tmp 2) rfl w.heap.size rfl _ _ _ _ HB0.out Tryz.underlying31 rfl (by rw [sizeRef]; rfl) ?_)
    | (refine wpList_load_row rfl 89 (.tmp 3) rfl (w.heap.size + 1) rfl _ _ _ _ HC0.out Tryz.underlying89 rfl (by rw [sizeChg]; rfl) ?_))
  refine (HC.out _ HD.out.below).mono ?_
  rintro e2 w3 ⟨rfl, hb3⟩
  have D3 := HD.out.keep hb3
  have HD3 := Lib.hid D3
  have hb0 := D3.box
  have hr0 := D3.res
  unfold nilsR at hr0
  have HB3 := Lib.hid hb0
  have HR3 := Lib.hid hr0
  clear hb0 hr0 D3 hb3 HD HB0 HC0
  go_wp2_with (first
    | fail
    | (refine wpList_load_row rfl 31 (.tmp 2) rfl w.heap.size rfl _ _ _ _ HB3.out Tryz.underlying31 rfl (by rw [sizeRef]; rfl) ?_)
    | (refine wpList_store_row rfl 31 (.tmp 4) (.tmp 15) rfl (w.heap.size + 1 + 1) #[.slice an M.length cn, .slice al L.length cl, .slice ac M.length cc, .slice ad M.length cd, .slice aa M.length ca, .slice af (devL M 0).length cf] rfl rfl _ _ HR3.out sizeRef rfl (one6 _ _ _ _ _ _ _ _ _ _ _ _ _ _ _ _ _ _) ?_))
  refine bodyPost_ret (v := .tuple #[.agg #[.slice an M.length cn, .slice al L.length cl, .slice ac M.length cc, .slice ad M.length cd, .slice aa M.length ca, .slice af (devL M 0).length cf], .int .i64 0, .int .i64 e]) ?_ rfl ⟨⟨.slice an M.length cn, .slice al L.length cl, .slice ac M.length cc, .slice ad M.length cd, .slice aa M.length ca, .slice af (devL M 0).length cf⟩, L, ?_, ?_, ?_, by omega, ?_⟩
  · exact results_do rfl (setRow_heap _ _ _ _ _ _ HR3.out) rfl
  · rw [HRs.out.2, HE.out]; rfl
  · rw [HRs.out.1]
    exact (but_setRow HR3.out _).rs HR3.out (HH.out.keep HD3.out.below)
  · rw [HRs.out.1]; exact R
  · exact (but_setRow HR3.out _).below HD3.out.below (by omega) HD3.out.below.size
end Go.Proofs.YtknfhphhcnbndaaGreatDoor.V

namespace Go.Proofs.YtknfhphhcnbndaaGreatDoor.V
open Go.RowKit

theorem app_one {W W1 : World} {o : Obj} {r : Option Nat} {b k : Nat} {v : Value} (h1 : (W.alloc o).grownBy W1 r) (hr : ∀ j, r = some j → W.heap.size ≤ j) {arr : Array Value} {T : TypeId} (hb : W.heap[b]? = some (.cells arr T (0, 0))) :
    W1.heap[b]? = some (.cells arr T (0, 0)) ∧ But b W (W1.setCell ⟨b, k, none⟩ v) ∧ (W1.setCell ⟨b, k, none⟩ v).heap[b]? = some (.cells (arr.setIfInBounds k v) T (0, 0)) := by
  have hbl := heap_lt hb
  have s1 : W.heap.size ≤ W1.heap.size := Nat.le_trans (by simp) h1.size
  have keep : ∀ j, j < W.heap.size → W1.heap[j]? = W.heap[j]? := fun j hj => by rw [grown_old h1 hr (by simp; omega) hj, heap_alloc_old _ _ hj]
  have hb2 : W1.heap[b]? = some (.cells arr T (0, 0)) := (keep b hbl).trans hb
  refine ⟨hb2, ⟨h1.os, h1.tape, h1.output, by rw [size_setCell]; omega, ?_⟩, heap_setCell_same _ _ _ _ _ _ hb2⟩
  intro j hj hjb
  rw [heap_setCell_other _ _ _ _ (by exact hjb)]
  exact keep j hj
theorem copyN {W wq w1 : World} {M : List Nd} {L : List It} {v : Rv} {c : Chg} {v1 : Value} {o : Obj} (D : DIn W v c wq) (H : Rs M L v wq)
    (h1 : w1.ownsRow wq.heap.size 66 13 v1 (0 + M.length) ([] ++ bares M)) (hg : (wq.alloc o).grownBy w1 (Value.slice (some ⟨wq.heap.size, 0, none⟩) 0 0).ownBlock) :
    w1.cell? ⟨W.heap.size, 0, none⟩ = some v.n ∧ w1.frozen? ⟨W.heap.size, 0, none⟩ = false ∧ DIn W { v with n := v1 } c (w1.setCell ⟨W.heap.size, 0, none⟩ v1) ∧ Rs M L { v with n := v1 } (w1.setCell ⟨W.heap.size, 0, none⟩ v1) ∧ (∀ j, v1.ownBlock = some j → wq.heap.size ≤ j) := by
  have hbl := heap_lt D.box
  obtain ⟨r1, r2, r3⟩ := app_one (k := 0) (v := v1) hg (own_ge (owns_made (e := 66) (size := 13) (Nat.le_refl wq.heap.size))) D.box
  have hn := owns_set (u := v1) (k := 0) h1 hbl
  rw [Nat.zero_add, List.nil_append] at hn
  exact ⟨by rw [cell_of_row _ _ _ _ _ _ r1]; rfl, frozen_of_row _ _ _ _ _ r1, D.but r2 r3, ⟨hn, r2.owns H.hl D.box (by decide), r2.owns H.hc D.box (by decide), r2.owns H.hd D.box (by decide), r2.owns H.ha D.box (by decide), r2.owns H.hf D.box (by decide)⟩, own_ge h1⟩
theorem copyD {W wq w1 : World} {M : List Nd} {L : List It} {v : Rv} {c : Chg} {v1 : Value} {o : Obj} (D : DIn W v c wq) (H : Rs M L v wq)
    (h1 : w1.ownsRow wq.heap.size 4 1 v1 (0 + M.length) ([] ++ deads M)) (hg : (wq.alloc o).grownBy w1 (Value.slice (some ⟨wq.heap.size, 0, none⟩) 0 0).ownBlock) :
    w1.cell? ⟨W.heap.size, 3, none⟩ = some v.d ∧ w1.frozen? ⟨W.heap.size, 3, none⟩ = false ∧ DIn W { v with d := v1 } c (w1.setCell ⟨W.heap.size, 3, none⟩ v1) ∧ Rs M L { v with d := v1 } (w1.setCell ⟨W.heap.size, 3, none⟩ v1) ∧ (∀ j, v1.ownBlock = some j → wq.heap.size ≤ j) := by
  have hbl := heap_lt D.box
  obtain ⟨r1, r2, r3⟩ := app_one (k := 3) (v := v1) hg (own_ge (owns_made (e := 4) (size := 1) (Nat.le_refl wq.heap.size))) D.box
  have hn := owns_set (u := v1) (k := 3) h1 hbl
  rw [Nat.zero_add, List.nil_append] at hn
  exact ⟨by rw [cell_of_row _ _ _ _ _ _ r1]; rfl, frozen_of_row _ _ _ _ _ r1, D.but r2 r3, ⟨r2.owns H.hn D.box (by decide), r2.owns H.hl D.box (by decide), r2.owns H.hc D.box (by decide), hn, r2.owns H.ha D.box (by decide), r2.owns H.hf D.box (by decide)⟩, own_ge h1⟩
theorem modify_set {M : List Nd} {j : Nat} {n : Nd} {f : Nd → Nd} (h : M[j]? = some n) : M.set j (f n) = M.modify j f := by
  apply List.ext_getElem?
  intro i
  rw [List.getElem?_set, List.getElem?_modify]
  by_cases e : j = i
  · subst e; rw [if_pos rfl, if_pos (List.getElem?_eq_some_iff.1 h).1, h]; simp
  · rw [if_neg e]; cases M[i]? <;> simp [e]
/-- What a node's number list, covers, deads and ups are, where one node is turned. -/
theorem covs_set : ∀ (M : List Nd) (b j : Nat) (n n' : Nd), M[j]? = some n → n'.over = n.over → covs (M.set j n') b = covs M b
  | [], b, j, n, n', h, _ => by simp at h
  | m :: r, b, 0, n, n', h, ho => by simp at h; subst h; simp [covs, cov, ho]
  | m :: r, b, j + 1, n, n', h, ho => by rw [List.set_cons_succ, covs, covs, covs_set r (b + 1) j n n' (by simpa using h) ho]
theorem devL_set : ∀ (M : List Nd) (b j : Nat) (n n' : Nd), M[j]? = some n → n'.ino = n.ino → devL (M.set j n') b = devL M b
  | [], b, j, n, n', h, _ => by simp at h
  | m :: r, b, 0, n, n', h, ho => by simp at h; subst h; simp [devL, ho]
  | m :: r, b, j + 1, n, n', h, ho => by rw [List.set_cons_succ, devL, devL, devL_set r (b + 1) j n n' (by simpa using h) ho]
theorem map_set_same {α : Type} {M : List Nd} {j : Nat} {n n' : Nd} (f : Nd → α) (h : M[j]? = some n) (hf : f n' = f n) : (M.set j n').map f = M.map f := by
  apply List.ext_getElem?
  intro i
  rw [List.getElem?_map, List.getElem?_map, List.getElem?_set]
  by_cases e : j = i
  · subst e; rw [if_pos rfl, if_pos (List.getElem?_eq_some_iff.1 h).1, h]; simp [hf]
  · rw [if_neg e]
/-- A store into one node of the reference's own. -/
theorem setN {W wq : World} {M : List Nd} {L : List It} {v : Rv} {c : Chg} {g cap j k : Nat} {n n' : Nd} {u : Value} (D : DIn W v c wq) (H : Rs M L v wq) (hv : v.n = .slice (some ⟨g, 0, none⟩) M.length cap) (hg : W.heap.size + 1 + 1 < g) (hj : M[j]? = some n) (hk : k < 13) (hs : n'.bare = n.bare.set k u) (ho : n'.over = n.over) (hi : n'.ino = n.ino) (hd : n'.dead = n.dead) (hu : n'.up = n.up) :
    DIn W v c (wq.setCell ⟨g, j * 13 + k, none⟩ u) ∧ Rs (M.set j n') L v (wq.setCell ⟨g, j * 13 + k, none⟩ u) := by
  have hn := H.hn
  rw [hv] at hn
  have hjl := (List.getElem?_eq_some_iff.1 hj).1
  obtain ⟨arr, hga⟩ := owns_type hn (k := g) rfl
  have hb := but_setCell wq g (j * 13 + k) u
  have hne : ∀ {e : TypeId} {size m : Nat} {x : Value} {xs : List Value}, wq.ownsRow 0 e size x m xs → e ≠ 66 → (wq.setCell ⟨g, j * 13 + k, none⟩ u).ownsRow 0 e size x m xs := fun h he => hb.owns h hga he
  refine ⟨⟨(hb.block _ (heap_lt D.box) (by omega)).trans D.box, (hb.block _ (heap_lt D.chg) (by omega)).trans D.chg, (hb.block _ (heap_lt D.res) (by omega)).trans D.res, hb.below D.below (by omega) D.below.size⟩, ?_⟩
  refine ⟨?_, hne H.hl (by decide), ?_, ?_, ?_, ?_⟩
  · rw [hv, List.length_set, ← bares_set M j k n n' u hj hk hs]
    exact owns_setCell hn (by rw [bares_len]; omega) u
  · rw [List.length_set, covs_set M 0 j n n' hj ho]; exact hne H.hc (by decide)
  · rw [List.length_set]; unfold deads; rw [map_set_same _ hj (by rw [hd])]; exact hne H.hd (by decide)
  · rw [List.length_set]; unfold ups; rw [map_set_same _ hj (by rw [hu])]; exact hne H.ha (by decide)
  · rw [devL_set M 0 j n n' hj hi]; exact hne H.hf (by decide)
theorem Rel.set {M : List Nd} {L : List It} {j : Nat} {n n' : Nd} (R : Rel M L) (hj : M[j]? = some n) (he : n'.ents = n.ents) (ho : n'.over = n.over) : Rel (M.set j n') L := by
  refine ⟨fun i x hx => ?_, fun x hx => ?_, by rw [List.length_set]; exact R.at_, by rw [List.length_set]; exact R.id⟩
  · rw [List.getElem?_set] at hx
    split at hx
    · rename_i e
      subst e
      rw [if_pos (List.getElem?_eq_some_iff.1 hj).1] at hx
      obtain rfl := Option.some.inj hx
      rw [he]; exact R.ents j n hj
    · exact R.ents i x hx
  · rcases List.mem_or_eq_of_mem_set hx with q | q
    · exact R.over x q
    · rw [q, ho]; exact R.over n (List.mem_of_getElem? hj)
end Go.Proofs.YtknfhphhcnbndaaGreatDoor.V

namespace Go.Proofs.YtknfhphhcnbndaaGreatDoor.V
open Go.RowKit Go.BigFrame

theorem list_set_same {α : Type} {l : List α} {i : Nat} {x : α} (h : l[i]? = some x) : l.set i x = l := by
  apply List.ext_getElem?
  intro k
  rw [List.getElem?_set]
  split
  · rename_i e
    subst e
    rw [if_pos (List.getElem?_eq_some_iff.1 h).1, h]
  · rfl
/-- A store into one mark of the reference's own. -/
theorem setD {W wq : World} {M : List Nd} {L : List It} {v : Rv} {c : Chg} {g cap j : Nat} {n : Nd} (D : DIn W v c wq) (H : Rs M L v wq) (hv : v.d = .slice (some ⟨g, 0, none⟩) M.length cap) (hg : W.heap.size + 1 + 1 < g) (hj : M[j]? = some n) :
    DIn W v c (wq.setCell ⟨g, j, none⟩ (.bool true)) ∧ Rs (M.set j { n with dead := true }) L v (wq.setCell ⟨g, j, none⟩ (.bool true)) := by
  have hn := H.hd
  rw [hv] at hn
  have hjl := (List.getElem?_eq_some_iff.1 hj).1
  obtain ⟨arr, hga⟩ := owns_type hn (k := g) rfl
  have hb := but_setCell wq g j (.bool true)
  have hne : ∀ {e : TypeId} {size m : Nat} {x : Value} {xs : List Value}, wq.ownsRow 0 e size x m xs → e ≠ 4 → (wq.setCell ⟨g, j, none⟩ (.bool true)).ownsRow 0 e size x m xs := fun h he => hb.owns h hga he
  refine ⟨⟨(hb.block _ (heap_lt D.box) (by omega)).trans D.box, (hb.block _ (heap_lt D.chg) (by omega)).trans D.chg, (hb.block _ (heap_lt D.res) (by omega)).trans D.res, hb.below D.below (by omega) D.below.size⟩, ?_⟩
  refine ⟨?_, hne H.hl (by decide), ?_, ?_, ?_, ?_⟩
  · rw [List.length_set]
    have e : bares (M.set j { n with dead := true }) = bares M := by
      have := bares_set M j 0 n { n with dead := true } (.int .i64 n.dev) hj (by omega) rfl
      rw [← this]
      have h0 : (bares M)[j * 13 + 0]? = some (.int .i64 n.dev) := (bares_get M j 0 n hj (by omega)).trans rfl
      exact (list_set_same h0)
    rw [e]; exact hne H.hn (by decide)
  · rw [List.length_set, covs_set M 0 j n { n with dead := true } hj rfl]; exact hne H.hc (by decide)
  · rw [hv, List.length_set]
    have e : deads (M.set j { n with dead := true }) = (deads M).set j (.bool true) := by unfold deads; rw [List.map_set]
    rw [e]
    exact owns_setCell hn (by unfold deads; rw [List.length_map]; exact hjl) _
  · rw [List.length_set]; unfold ups; rw [map_set_same (n' := { n with dead := true }) _ hj rfl]; exact hne H.ha (by decide)
  · rw [devL_set M 0 j n { n with dead := true } hj rfl]; exact hne H.hf (by decide)
theorem setNd_over (c : Chg) (n : Nd) : (setNd c n).over = n.over := by
  unfold setNd
  repeat' split
  all_goals rfl
theorem Rs.drew {M : List Nd} {L : List It} {v : Rv} {w : World} (H : Rs M L v w) : Rs M L v w.drew := H.keep (Below.refl _ _).drew
theorem DIn.drew {W : World} {v : Rv} {c : Chg} {w : World} (h : DIn W v c w) : DIn W v c w.drew := h.keep (Below.refl _ _).drew
theorem do_set {M : List Nd} {c : Chg} {j : Nat} {y : Nd} (hw : wrongM M c = 0) (hk : 4 ≤ c.kind) (h7 : c.kind ≠ 7) (ht : c.to = (j : Int)) (hy : M[j]? = some y) : doM M c = M.set j (setNd c y) ∧ doR M c = 0 := by
  unfold doM doR carryM
  rw [if_pos hw, if_pos hw, if_neg (by omega), if_neg (by omega), if_neg (by omega), if_neg (by omega), if_neg h7, ht, Int.toNat_natCast, modify_set hy]
  exact ⟨rfl, rfl⟩

theorem maxI_max (a : Int) : maxI a 0 = max a 0 := by
  show (if a < 0 then (0 : Int) else a) = max a 0
  split <;> omega
end Go.Proofs.YtknfhphhcnbndaaGreatDoor.V

namespace Go.Proofs.YtknfhphhcnbndaaGreatDoor.V
open Go.RowKit

/-- What the reference's five slices look at of a node. -/
def seenR (n : Nd) : List Value × Int × Bool × Int × Int := (n.bare, n.over, n.dead, n.up, n.ino)
theorem bares_seen : ∀ (a b : List Nd), a.map seenR = b.map seenR → bares a = bares b
  | [], [], _ => rfl
  | [], y :: r, h => by simp at h
  | x :: r, [], h => by simp at h
  | x :: r, y :: t, h => by
    simp only [List.map_cons, List.cons.injEq] at h
    rw [bares, bares, bares_seen r t h.2, show x.bare = y.bare from congrArg (·.1) h.1]
theorem covs_seen : ∀ (a b : List Nd) (k : Nat), a.map seenR = b.map seenR → covs a k = covs b k
  | [], [], _, _ => rfl
  | [], y :: r, _, h => by simp at h
  | x :: r, [], _, h => by simp at h
  | x :: r, y :: t, k, h => by
    simp only [List.map_cons, List.cons.injEq] at h
    rw [covs, covs, covs_seen r t (k + 1) h.2]
    unfold cov
    rw [show x.over = y.over from congrArg (·.2.1) h.1]
theorem devL_seen : ∀ (a b : List Nd) (k : Nat), a.map seenR = b.map seenR → devL a k = devL b k
  | [], [], _, _ => rfl
  | [], y :: r, _, h => by simp at h
  | x :: r, [], _, h => by simp at h
  | x :: r, y :: t, k, h => by
    simp only [List.map_cons, List.cons.injEq] at h
    rw [devL, devL, devL_seen r t (k + 1) h.2, show x.ino = y.ino from congrArg (·.2.2.2.2) h.1]
theorem deads_seen (a b : List Nd) (h : a.map seenR = b.map seenR) : deads a = deads b := by
  have e : ∀ l : List Nd, deads l = (l.map seenR).map fun s => Value.bool s.2.2.1 := fun l => by unfold deads; rw [List.map_map]; rfl
  rw [e a, e b, h]
theorem ups_seen (a b : List Nd) (h : a.map seenR = b.map seenR) : ups a = ups b := by
  have e : ∀ l : List Nd, ups l = (l.map seenR).map fun s => Value.int .i64 s.2.2.2.1 := fun l => by unfold ups; rw [List.map_map]; rfl
  rw [e a, e b, h]
/-- Nodes of which the reference sees the same lie in the same slices. -/
theorem Rs.seen {M M' : List Nd} {L : List It} {v : Rv} {w : World} (H : Rs M L v w) (h : M'.map seenR = M.map seenR) : Rs M' L v w := by
  have hl : M'.length = M.length := by have := congrArg List.length h; simpa using this
  refine ⟨?_, H.hl, ?_, ?_, ?_, ?_⟩
  · rw [hl, bares_seen M' M h]; exact H.hn
  · rw [hl, covs_seen M' M 0 h]; exact H.hc
  · rw [hl, deads_seen M' M h]; exact H.hd
  · rw [hl, ups_seen M' M h]; exact H.ha
  · rw [devL_seen M' M 0 h]; exact H.hf
theorem seen_modify {M : List Nd} {i : Nat} {f : Nd → Nd} (hf : ∀ n, seenR (f n) = seenR n) : (M.modify i f).map seenR = M.map seenR := by
  apply List.ext_getElem?
  intro j
  rw [List.getElem?_map, List.getElem?_map, List.getElem?_modify]
  cases M[j]? with
  | none => rfl
  | some x =>
    show Option.map seenR (some (if i = j then f x else x)) = _
    split
    · show some (seenR (f x)) = _; rw [hf]; rfl
    · rfl
theorem seen_ent (s : ByteArray) (id : Int) (n : Nd) : seenR (addEnt s id n) = seenR n := rfl
theorem seen_links (n : Nd) : seenR (moreLinks n) = seenR n := rfl

/-- A node more, without entries. -/
theorem Rel.app {M : List Nd} {L : List It} {n : Nd} (R : Rel M L) (he : n.ents = []) (ho : 0 ≤ n.over) : Rel (M ++ [n]) L := by
  refine ⟨fun i x hx => ?_, fun x hx => ?_, fun e he => ?_, fun e he => ?_⟩
  · rcases Nat.lt_or_ge i M.length with q | q
    · rw [List.getElem?_append_left q] at hx
      exact R.ents i x hx
    · rw [List.getElem?_append_right q] at hx
      have hi : i - M.length = 0 := by
        have := (List.getElem?_eq_some_iff.1 hx).1
        simp at this
        omega
      rw [hi] at hx
      obtain rfl : n = x := by simpa using hx
      rw [he, List.filter_eq_nil_iff.2 (fun e hm => by have := (R.at_ e hm).2; simp; omega)]
      rfl
  · rcases List.mem_append.1 hx with q | q
    · exact R.over x q
    · rw [List.mem_singleton.1 q]; exact ho
  · have := R.at_ e he; rw [List.length_append]; simp; omega
  · have := R.id e he; rw [List.length_append]; simp; omega
/-- An entry more. -/
theorem Rel.enter {M : List Nd} {L : List It} {i : Nat} {s : ByteArray} {id : Int} (R : Rel M L) (hi : i < M.length) (h0 : 0 ≤ id) (h1 : id < (M.length : Int)) : Rel (M.modify i (addEnt s id)) (L ++ [⟨(i : Int), s, id⟩]) := by
  refine ⟨fun j x hx => ?_, fun x hx => ?_, fun e he => ?_, fun e he => ?_⟩
  · rw [List.getElem?_modify] at hx
    obtain ⟨y, hy, hxy⟩ := Option.map_eq_some_iff.1 hx
    rw [List.filter_append, List.map_append, ← R.ents j y hy]
    by_cases e : i = j
    · subst e
      rw [if_pos rfl] at hxy
      subst hxy
      simp [addEnt]
    · rw [if_neg e] at hxy
      subst hxy
      rw [List.filter_cons_of_neg (by simp; omega)]
      simp
  · obtain ⟨j, hj⟩ := List.mem_iff_getElem?.1 hx
    rw [List.getElem?_modify] at hj
    obtain ⟨y, hy, hxy⟩ := Option.map_eq_some_iff.1 hj
    have := R.over y (List.mem_of_getElem? hy)
    by_cases e : i = j
    · rw [if_pos e] at hxy; subst hxy; exact this
    · rw [if_neg e] at hxy; subst hxy; exact this
  · rw [List.length_modify]
    rcases List.mem_append.1 he with q | q
    · exact R.at_ e q
    · rw [List.mem_singleton.1 q]; exact ⟨by show (0 : Int) ≤ (i : Int); omega, by show (i : Int) < _; omega⟩
  · rw [List.length_modify]
    rcases List.mem_append.1 he with q | q
    · exact R.id e q
    · rw [List.mem_singleton.1 q]; exact ⟨h0, h1⟩
/-- Nodes turned in what the entries do not see. -/
theorem Rel.same {M : List Nd} {L : List It} {i : Nat} {f : Nd → Nd} (R : Rel M L) (hf : ∀ n, (f n).ents = n.ents ∧ (0 ≤ n.over → 0 ≤ (f n).over)) : Rel (M.modify i f) L := by
  refine ⟨fun j x hx => ?_, fun x hx => ?_, by rw [List.length_modify]; exact R.at_, by rw [List.length_modify]; exact R.id⟩
  · rw [List.getElem?_modify] at hx
    obtain ⟨y, hy, hxy⟩ := Option.map_eq_some_iff.1 hx
    rw [← R.ents j y hy]
    by_cases e : i = j
    · rw [if_pos e] at hxy; subst hxy; exact (hf y).1
    · rw [if_neg e] at hxy; subst hxy; rfl
  · obtain ⟨j, hj⟩ := List.mem_iff_getElem?.1 hx
    rw [List.getElem?_modify] at hj
    obtain ⟨y, hy, hxy⟩ := Option.map_eq_some_iff.1 hj
    have := R.over y (List.mem_of_getElem? hy)
    by_cases e : i = j
    · rw [if_pos e] at hxy; subst hxy; exact (hf y).2 this
    · rw [if_neg e] at hxy; subst hxy; exact this
/-- What a change that builds makes of the relation. -/
theorem Rel.built {M : List Nd} {L : List It} {i : Nat} {s : ByteArray} {n : Nd} {d : Int} (R : Rel M L) (hi : i < M.length) (he : n.ents = []) : Rel (builtM M i s n d) (L ++ [⟨(i : Int), s, (M.length : Int)⟩]) := by
  unfold builtM
  refine Rel.same ?_ (fun _ => ⟨rfl, fun h => h⟩)
  exact (R.app (n := addedNd n d M) he (by show (0 : Int) ≤ (M.length : Int); omega)).enter (by rw [List.length_append]; omega) (by omega) (by rw [List.length_append]; simp; omega)
theorem seen_built {M : List Nd} {i : Nat} {s : ByteArray} {n : Nd} {d : Int} : (builtM M i s n d).map seenR = (M ++ [addedNd n d M]).map seenR := by
  unfold builtM
  rw [seen_modify seen_links, seen_modify (seen_ent _ _)]
/-- A name more for a node that there is. -/
theorem Rel.shared {M : List Nd} {L : List It} {i k : Nat} {s : ByteArray} {id : Int} (R : Rel M L) (hi : i < M.length) (h0 : 0 ≤ id) (h1 : id < (M.length : Int)) : Rel ((M.modify i (addEnt s id)).modify k moreLinks) (L ++ [⟨(i : Int), s, id⟩]) :=
  (R.enter hi h0 h1).same (fun _ => ⟨rfl, fun h => h⟩)
theorem seen_shared {M : List Nd} {i k : Nat} {s : ByteArray} {id : Int} : ((M.modify i (addEnt s id)).modify k moreLinks).map seenR = M.map seenR := by
  rw [seen_modify seen_links, seen_modify (seen_ent _ _)]
/-- A directory covered. -/
theorem Rel.covered {M : List Nd} {L : List It} {i : Nat} {m up : Int} (R : Rel M L) : Rel (coveredM M i m up) L := by
  unfold coveredM
  refine Rel.same (R.app (n := addedNd (dirNd (m % 4096) up) _ M) rfl (by show (0 : Int) ≤ (M.length : Int); omega)) (fun n => ⟨rfl, fun _ => by show (0 : Int) ≤ (M.length : Int); omega⟩)
/-- A node more at the end of the slices: what add made of them is what they are of the longer list. -/
theorem Rs.of_add {M : List Nd} {L : List It} {v : Rv} {w : World} {n : Nd} {d : Int} (hd : (addedNd n d M).dead = false) (h1 : cntD d M ≠ 0)
    (H : ROwn w v (M.length + 1) (bares M ++ (addedNd n d M).bare) L.length (itCells L) (M.length + 1) (covs M 0 ++ [.int .i64 (-1)]) (M.length + 1) (deads M ++ [.bool false]) (M.length + 1) (ups M ++ [.int .i64 n.up]) (devL M 0).length (ints (devL M 0))) : Rs (M ++ [addedNd n d M]) L v w := by
  obtain ⟨a, b, c, e, f, g⟩ := H
  have hl : (M ++ [addedNd n d M]).length = M.length + 1 := by simp
  have hdv : devL (M ++ [addedNd n d M]) 0 = devL M 0 := by
    rw [devL_append]
    have : (addedNd n d M).ino ≠ 1 := by show 1 + cntD d M ≠ 1; omega
    simp [devL, this]
  refine ⟨?_, b, ?_, ?_, ?_, ?_⟩
  · rw [hl, bares_append, bares_one]; exact a
  · rw [hl, covs_append]
    have : covs [addedNd n d M] (0 + M.length) = [.int .i64 (-1)] := by
      rw [Nat.zero_add, covs, covs]
      unfold cov
      rw [if_pos (show (addedNd n d M).over = (M.length : Int) from rfl)]
    rw [this]; exact c
  · rw [hl]; unfold deads; rw [List.map_append]; show w.ownsRow 0 _ 1 v.d _ (_ ++ [.bool (addedNd n d M).dead]); rw [hd]; exact e
  · rw [hl]; unfold ups; rw [List.map_append]; exact f
  · rw [hdv]; exact g
theorem cntD_ne {M : List Nd} {i : Nat} {x : Nd} (h : M[i]? = some x) : cntD x.dev M ≠ 0 := by have := cntD_pos h rfl; omega
end Go.Proofs.YtknfhphhcnbndaaGreatDoor.V

namespace Go.Proofs.YtknfhphhcnbndaaGreatDoor.V
open Go.RowKit

section
variable {P : Program} {ops : Array Oper} {Q : Exit → Act → World → Prop} {md : Region.Mode} {S : World → Prop} {z : Nat}

/-- In whatever order the rest comes up, all is well; S holds behind each operation but z. -/
def Till (P : Program) (md : Region.Mode) (ops : Array Oper) (Q : Exit → Act → World → Prop) (S : World → Prop) (z : Nat) : Nat → Array Bool → Act → World → Prop
  | 0 => fun up a w => Region.ready md ops up = [] ∧ Q .normal a w
  | n + 1 => fun up a w => (Region.ready md ops up = [] → Q .normal a w) ∧ ∀ i, i ∈ Region.ready md ops up → wpOp P ops Q i (fun a' w' => (i ≠ z → S w') ∧ Till P md ops Q S z n (up.setIfInBounds i true) a' w') a w
theorem Till.any : ∀ {n : Nat} {up : Array Bool} {a : Act} {w : World}, Till P md ops Q S z n up a w → wpAny P md ops Q n up a w
  | 0, _, _, _, h => h
  | n + 1, _, _, _, h => ⟨h.1, fun i hi => wpOp_mono (fun _ _ q => Till.any q.2) (h.2 i hi)⟩
theorem Till.region {id : Nat} {a : Act} {w : World} (hm : P.follows .mixedOrders = true) (hS : S w.drew) (h : S w.drew → Till P .any ops Q S z ops.size (Array.replicate ops.size false) a w.drew) : (Code.region id ops true).wp P Q a w :=
  wp_region_any hm (Till.any (h hS))
/-- Does z wait for i? -/
def waitsB (md : Region.Mode) (ops : Array Oper) (z i : Nat) : Bool := match ops[z]? with
  | some o => o.after.any fun e => Region.binds md e && e.on == i
  | none => false
theorem waits_not {i j : Nat} {up : Array Bool} (hz : waitsB md ops z i = true) (hi : i ∈ Region.ready md ops up) (hj : j ∈ Region.ready md ops up) : j ≠ z := by
  rintro rfl
  obtain ⟨_, o, ho, hall⟩ := mem_ready.1 hj
  unfold waitsB at hz
  rw [ho] at hz
  obtain ⟨e, he, hb⟩ := Array.any_eq_true'.1 hz
  simp only [Bool.and_eq_true, beq_iff_eq] at hb
  have h1 := hall e he hb.1
  rw [hb.2] at h1
  have h0 := (mem_ready.1 hi).1
  rcases Nat.lt_or_ge i up.size with q | q
  · simp [q] at h0 h1
    rw [h0] at h1
    cases h1
  · simp [Array.getElem?_eq_none q] at h1
theorem Till.front {i : Nat} {oi : Oper} {v : Value} (hi : ops[i]? = some oi) (hsel : ∀ (j : Nat) (o : Oper) cs b, ops[j]? = some o → o.op ≠ .select cs b) (hQ : ∀ c a w, Q (.panic c) (a.put oi.dst v) w → Q (.panic c) a w) (hz : waitsB md ops z i = true) :
    ∀ (n : Nat) (up : Array Bool) (a : Act) (w : World), (∀ j oj, ops[j]? = some oj → j ≠ i → up.getD j true = false → (∀ e ∈ oj.after, Region.binds md e = true → e.on ≠ i) → oi.apart ops oj = true) → i ∈ Region.ready md ops up → YieldsIf P ops S oi v a → S w →
      Till P md ops Q S z n (up.setIfInBounds i true) (a.put oi.dst v) w → Till P md ops Q S z (n + 1) up a w := by
  have one : ∀ {K : Act → World → Prop} {a : Act} {w : World}, YieldsIf P ops S oi v a → S w → K (a.put oi.dst v) w → wpOp P ops Q i K a w := fun hy hS hK => hy.wpOp hi hS hK
  have none : ∀ {up : Array Bool} {C : Prop}, i ∈ Region.ready md ops up → Region.ready md ops up = [] → C := fun hr h => by rw [h] at hr; cases hr
  intro n
  induction n with
  | zero =>
    intro up a w _ hr hy hS T
    refine ⟨none hr, fun j hj => ?_⟩
    rcases Classical.em (j = i) with e | e
    · rw [e]; exact one hy hS ⟨fun _ => hS, T⟩
    · have m := ready_mono (i := i) hj e
      rw [T.1] at m
      cases m
  | succ n ih =>
    intro up a w hfree hr hy hS T
    refine ⟨none hr, fun j hj => ?_⟩
    rcases Classical.em (j = i) with e | e
    · rw [e]; exact one hy hS ⟨fun _ => hS, T⟩
    · have hjz : j ≠ z := waits_not hz hr hj
      obtain ⟨hup, oj, hoj, hall⟩ := mem_ready.1 hj
      have hun : ∀ d ∈ oj.after, Region.binds md d = true → d.on ≠ i := fun d hd hb q => by
        have h1 := hall d hd hb
        rw [q] at h1
        have h0 := (mem_ready.1 hr).1
        rcases Nat.lt_or_ge i up.size with g | g
        · simp [g] at h0 h1
          rw [h0] at h1
          cases h1
        · simp [Array.getElem?_eq_none g] at h1
      have step := wpOp_putIf hoj (hfree j oj hoj e hup hun) (fun cs b => hsel i oi cs b hi) (fun cs b => hsel j oj cs b hoj) hQ hy (T.2 j (ready_mono hj e))
      refine wpOp_mono (fun a' w' q => ⟨fun _ => q.2.1 hjz, ih _ a' w' (fun k ok hk hki hku hkn => hfree k ok hk hki ?_ hkn) (ready_mono hr (Ne.symm e)) q.1 (q.2.1 hjz) ?_⟩) step
      · rcases Classical.em (j = k) with g | g
        · rw [← g]; exact hup
        · rw [getD_set_ne true g] at hku; exact hku
      · rw [Array.setIfInBounds_comm _ _ e]
        exact q.2.2
theorem Till.take {i : Nat} {oi : Oper} {v : Value} {n : Nat} {up : Array Bool} {a : Act} {w : World} (hi : ops[i]? = some oi) (hs : Region.noSelect ops = true) (hf : Region.free md ops up i = true) (hr : (Region.ready md ops up).contains i = true) (hz : waitsB md ops z i = true)
    (hQ : ∀ c a w, Q (.panic c) (a.put oi.dst v) w → Q (.panic c) a w) (hy : YieldsIf P ops S oi v a) (hS : S w) (h : Till P md ops Q S z n (up.setIfInBounds i true) (a.put oi.dst v) w) : Till P md ops Q S z (n + 1) up a w :=
  Till.front hi (Region.noSelect_spec hs) hQ hz n up a w (Region.free_spec hi hf) (by simpa using hr) hy hS h
theorem Till.next {i : Nat} {o : Oper} {n : Nat} {up : Array Bool} {a : Act} {w : World} (hr : Region.ready md ops up = [i]) (ho : ops[i]? = some o)
    (h : ∀ K : Act → World → Prop, Shut (∀ a w, (i ≠ z → S w) → Till P md ops Q S z n (up.setIfInBounds i true) a w → K a w) → if Region.wanted o (yielded ops a.tmps) = true then Oper.wp P o a w K Q else K (a.put o.dst undef) w) : Till P md ops Q S z (n + 1) up a w := by
  refine ⟨fun e => absurd e (by rw [hr]; exact List.cons_ne_nil _ _), fun j hj => ?_⟩
  rw [hr] at hj
  obtain rfl := List.mem_singleton.1 hj
  exact wpOp_step ho fun K hK => h K (fun a w hS hT => hK a w ⟨hS, hT⟩)
theorem Till.done {n : Nat} {up : Array Bool} {a : Act} {w : World} (hr : Region.ready md ops up = []) (h : Q .normal a w) : Till P md ops Q S z n up a w := by
  match n with
  | 0 => exact And.intro hr h
  | n + 1 =>
    refine ⟨fun _ => h, fun i hi => ?_⟩
    rw [hr] at hi
    cases hi
end
end Go.Proofs.YtknfhphhcnbndaaGreatDoor.V

namespace Go.Proofs.YtknfhphhcnbndaaGreatDoor.V
open Go.RowKit

theorem infoItem : (Tryz.prog.info? 179).map (fun i => (i.zero, i.size, i.bytes)) = some (some (.agg #[.int .i64 0, .string ⟨#[]⟩, .int .i64 0]), 3, 32) := by kernel_rfl
def itemC (a : Int) (s : ByteArray) (id : Int) : List Value := [.int .i64 a, .string s, .int .i64 id]
theorem itemC_one (a : Int) (s : ByteArray) (id : Int) : ∀ u ∈ itemC a s id, u.oneCell' = true := fun u hu => by
  unfold itemC at hu
  simp at hu
  rcases hu with rfl | rfl | rfl <;> rfl
theorem itCells_more (L : List It) (a : Int) (s : ByteArray) (id : Int) : itCells (L ++ [⟨a, s, id⟩]) = itCells L ++ itemC a s id := by rw [itCells_append]; rfl
/-- What the slices are behind the entries' appends. -/
def Lng (W wr : World) (v : Rv) (c : Chg) (mL : Nat) (xs : List Value) (wx : World) : Prop :=
  ∃ g cap, DIn W { v with l := .slice (some ⟨g, 0, none⟩) mL cap } c wx ∧ wx.ownsRow 0 179 3 (.slice (some ⟨g, 0, none⟩) mL cap) mL xs ∧ But W.heap.size wr wx
theorem lng_a {W wr w1 w2 : World} {v : Rv} {c : Chg} {n : Nat} {xs ys : List Value} {v1 : Value} {g cap : Nat} {o : Obj} (H : DIn W v c wr) (hg1 : (wr.alloc (.cells #[] 179)).grownBy w1 (Value.slice (some ⟨wr.heap.size, 0, none⟩) 0 0).ownBlock)
    (h1 : w1.ownsRow wr.heap.size 179 3 v1 (0 + n) ([] ++ xs)) (h2 : w2.ownsRow wr.heap.size 179 3 (.slice (some ⟨g, 0, none⟩) (0 + n + 1) cap) (0 + n + 1) ([] ++ xs ++ ys)) (hg2 : (w1.alloc o).grownBy w2 v1.ownBlock) :
    w2.cell? ⟨W.heap.size, 1, none⟩ = some v.l ∧ w2.frozen? ⟨W.heap.size, 1, none⟩ = false ∧ Lng W wr v c (n + 1) (xs ++ ys) (w2.setCell ⟨W.heap.size, 1, none⟩ (.slice (some ⟨g, 0, none⟩) (n + 1) cap)) := by
  obtain ⟨r1, r2, r3⟩ := app_two (k := 1) (v := .slice (some ⟨g, 0, none⟩) (n + 1) cap) hg1 hg2 (own_ge (owns_made (e := 179) (size := 3) (Nat.le_refl wr.heap.size))) (own_ge h1) H.box
  have hbl := heap_lt H.box
  rw [Nat.zero_add, List.nil_append] at h2
  exact ⟨by rw [cell_of_row _ _ _ _ _ _ r1]; rfl, frozen_of_row _ _ _ _ _ r1, g, cap, H.but r2 r3, owns_set h2 hbl, r2⟩
theorem lng_b {W wr w1 w2 : World} {v : Rv} {c : Chg} {n : Nat} {xs ys : List Value} {v1 d1 : Value} {g cap : Nat} {o o' : Obj} (H : DIn W v c wr) (hg1 : ((wr.alloc o).alloc o').grownBy w1 d1.ownBlock) (hd : ∀ j, d1.ownBlock = some j → wr.heap.size ≤ j)
    (h1 : w1.ownsRow wr.heap.size 179 3 v1 (0 + n) ([] ++ xs)) (h2 : w2.ownsRow wr.heap.size 179 3 (.slice (some ⟨g, 0, none⟩) (0 + n + 1) cap) (0 + n + 1) ([] ++ xs ++ ys)) (hg2 : w1.grownBy w2 v1.ownBlock) :
    w2.cell? ⟨W.heap.size, 1, none⟩ = some v.l ∧ w2.frozen? ⟨W.heap.size, 1, none⟩ = false ∧ Lng W wr v c (n + 1) (xs ++ ys) (w2.setCell ⟨W.heap.size, 1, none⟩ (.slice (some ⟨g, 0, none⟩) (n + 1) cap)) := by
  obtain ⟨r1, r2, r3⟩ := app_two' (k := 1) (v := .slice (some ⟨g, 0, none⟩) (n + 1) cap) hg1 hg2 hd (own_ge h1) H.box
  have hbl := heap_lt H.box
  rw [Nat.zero_add, List.nil_append] at h2
  exact ⟨by rw [cell_of_row _ _ _ _ _ _ r1]; rfl, frozen_of_row _ _ _ _ _ r1, g, cap, H.but r2 r3, owns_set h2 hbl, r2⟩
theorem row_b {wr w1 : World} {xs : List Value} {e : TypeId} {size : Nat} {row : Option Nat} {o : Obj} (hs : xs.length = size) (hg : ((wr.alloc o).alloc (.cells xs.toArray e)).grownBy w1 row) (hne : row ≠ some (wr.heap.size + 1)) : w1.ownsRow 0 e size (.slice (some ⟨wr.heap.size + 1, 0, none⟩) 1 1) 1 xs := by
  have h := owns_single (W := wr.alloc o) (e := e) (xs := xs) size hs
  have q : (wr.alloc o).heap.size = wr.heap.size + 1 := by simp
  rw [q] at h
  exact grown_owns h hg hne
theorem row_c {wr w1 : World} {xs : List Value} {e : TypeId} {size : Nat} {row : Option Nat} {o : Obj} (hs : xs.length = size) (hg : ((wr.alloc (.cells xs.toArray e)).alloc o).grownBy w1 row) (hne : row ≠ some wr.heap.size) : w1.ownsRow 0 e size (.slice (some ⟨wr.heap.size, 0, none⟩) 1 1) 1 xs :=
  grown_owns ((owns_single (W := wr) (e := e) (xs := xs) size hs).alloc o) hg hne
theorem grown_below {b : Nat} {w A B : World} {row : Option Nat} (h : Below b w A) (hg : A.grownBy B row) (hr : ∀ j, row = some j → b ≤ j) (hb : b ≤ A.heap.size) : Below b w B :=
  h.trans ⟨hg.os, hg.tape, hg.output, Nat.le_trans (by omega) hg.size, fun k hk => grown_old hg hr (by omega) hk⟩
section
variable {P : Program} {ops : Array Oper} {Q : Exit → Act → World → Prop} {md : Region.Mode} {S : World → Prop} {z : Nat}
theorem Till.two {i j : Nat} {o o' : Oper} {n : Nat} {up : Array Bool} {a : Act} {w : World} (hr : Region.ready md ops up = [i, j]) (ho : ops[i]? = some o) (ho' : ops[j]? = some o')
    (h : ∀ K : Act → World → Prop, Shut (∀ a w, (i ≠ z → S w) → Till P md ops Q S z n (up.setIfInBounds i true) a w → K a w) → if Region.wanted o (yielded ops a.tmps) = true then Oper.wp P o a w K Q else K (a.put o.dst undef) w)
    (h' : ∀ K : Act → World → Prop, Shut (∀ a w, (j ≠ z → S w) → Till P md ops Q S z n (up.setIfInBounds j true) a w → K a w) → if Region.wanted o' (yielded ops a.tmps) = true then Oper.wp P o' a w K Q else K (a.put o'.dst undef) w) : Till P md ops Q S z (n + 1) up a w := by
  refine ⟨fun e => absurd e (by rw [hr]; exact List.cons_ne_nil _ _), fun k hk => ?_⟩
  rw [hr] at hk
  have hk2 : k = i ∨ k = j := by simpa using hk
  rcases hk2 with q | q
  · rw [q]; exact wpOp_step ho fun K hK => h K (fun a w hS hT => hK a w ⟨hS, hT⟩)
  · rw [q]; exact wpOp_step ho' fun K hK => h' K (fun a w hS hT => hK a w ⟨hS, hT⟩)
end
end Go.Proofs.YtknfhphhcnbndaaGreatDoor.V
