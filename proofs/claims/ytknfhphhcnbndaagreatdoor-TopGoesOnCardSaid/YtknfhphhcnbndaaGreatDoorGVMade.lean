/-
  The covers copied, one of them turned; what a covered directory makes of the relation. Conditions: none.
  What the reference's Do makes of a device more. Conditions: at most 1000000 nodes and entries, texts of at most 1000000 bytes.
  What the reference's Do returns: the model's change, its number, its error. Conditions: at most 1000000 nodes and entries, texts of at most 1000000 bytes; the reference's entries are the model's.
  Changes that came in as a slice; what the reference's Few returns. Conditions: at most 1000000000 changes, texts that fit.
  The model stays small: a change makes at most one entry and one link more. Conditions: none.
  The program's file system and the reference's side by side, of the same nodes: neither's change touches the other's blocks. Conditions: each fact's own.
  What Made returns: both file systems, behind the same changes. Conditions: at most 400 changes, texts that Few lets through.
-/
import Derived.Test.YtknfhphhcnbndaaGreatDoorGVRefDo0
import Derived.Test.YtknfhphhcnbndaaGreatDoorGVRefDo1
import Derived.Test.YtknfhphhcnbndaaGreatDoorGVRefDo2
import Derived.Test.YtknfhphhcnbndaaGreatDoorGVRefDo3
import Derived.Test.YtknfhphhcnbndaaGreatDoorGVRefDo8
import Derived.Test.YtknfhphhcnbndaaGreatDoorGVAsk
set_option linter.unusedVariables false
set_option linter.unusedSimpArgs false
namespace Go.Proofs.YtknfhphhcnbndaaGreatDoor.V
open List renaming setIfInBounds_toArray → lt, set_cons_zero → l0, set_cons_succ → ls
open Go.RowKit

theorem But.setNew {b : Nat} {w w' : World} (h : But b w w') {g : Nat} (hg : w.heap.size ≤ g) (j : Nat) (u : Value) : But b w (w'.setCell ⟨g, j, none⟩ u) :=
  ⟨h.os, h.tape, h.output, by rw [size_setCell]; exact h.size, fun k hk hn => by rw [heap_setCell_other _ _ _ _ (by show k ≠ g; omega)]; exact h.block k hk hn⟩
theorem coverC {W wq w1 : World} {v : Rv} {c : Chg} {g1 cap1 n j : Nat} {u : Value} {o : Obj} {mN mL mD mA mF : Nat} {xN xL xs xD xA xF : List Value} (D : DIn W v c wq) (O : ROwn wq v mN xN mL xL n xs mD xD mA xA mF xF) (hj : j < xs.length)
    (h1 : w1.ownsRow wq.heap.size 3 1 (.slice (some ⟨g1, 0, none⟩) n cap1) (0 + n) ([] ++ xs)) (hg : (wq.alloc o).grownBy w1 (Value.slice (some ⟨wq.heap.size, 0, none⟩) 0 0).ownBlock) :
    (w1.cell? ⟨W.heap.size, 2, none⟩ = some v.c ∧ w1.frozen? ⟨W.heap.size, 2, none⟩ = false) ∧ DIn W { v with c := .slice (some ⟨g1, 0, none⟩) n cap1 } c (w1.setCell ⟨W.heap.size, 2, none⟩ (.slice (some ⟨g1, 0, none⟩) n cap1)) ∧ ((w1.setCell ⟨W.heap.size, 2, none⟩ (.slice (some ⟨g1, 0, none⟩) n cap1)).cell? ⟨g1, j, none⟩ = xs[j]? ∧ (w1.setCell ⟨W.heap.size, 2, none⟩ (.slice (some ⟨g1, 0, none⟩) n cap1)).frozen? ⟨g1, j, none⟩ = false) ∧
    DIn W { v with c := .slice (some ⟨g1, 0, none⟩) n cap1 } c ((w1.setCell ⟨W.heap.size, 2, none⟩ (.slice (some ⟨g1, 0, none⟩) n cap1)).setCell ⟨g1, j, none⟩ u) ∧ ROwn ((w1.setCell ⟨W.heap.size, 2, none⟩ (.slice (some ⟨g1, 0, none⟩) n cap1)).setCell ⟨g1, j, none⟩ u) { v with c := .slice (some ⟨g1, 0, none⟩) n cap1 } mN xN mL xL n (xs.set j u) mD xD mA xA mF xF := by
  have hbl := heap_lt D.box
  obtain ⟨r1, r2, r3⟩ := app_one (k := 2) (v := .slice (some ⟨g1, 0, none⟩) n cap1) hg (own_ge (owns_made (e := 3) (size := 1) (Nat.le_refl wq.heap.size))) D.box
  have hg1 : wq.heap.size ≤ g1 := own_ge h1 g1 rfl
  have hn := owns_set (u := .slice (some ⟨g1, 0, none⟩) n cap1) (k := 2) h1 hbl
  rw [Nat.zero_add, List.nil_append] at hn
  have b2 := r2.setNew hg1 j u
  refine ⟨⟨by rw [cell_of_row _ _ _ _ _ _ r1]; rfl, frozen_of_row _ _ _ _ _ r1⟩, D.but r2 r3, ⟨?_, owns_frozen hn j⟩, D.but b2 ?_, ⟨b2.owns O.1 D.box (by decide), b2.owns O.2.1 D.box (by decide), owns_setCell hn hj u, b2.owns O.2.2.2.1 D.box (by decide), b2.owns O.2.2.2.2.1 D.box (by decide), b2.owns O.2.2.2.2.2 D.box (by decide)⟩⟩
  · rw [List.getElem?_eq_getElem hj]
    exact owns_cell hn (List.getElem?_eq_getElem hj)
  · rw [heap_setCell_other _ _ _ _ (by show W.heap.size ≠ g1; omega)]
    exact r3
theorem covs_cover : ∀ (M : List Nd) (b j : Nat) (y : Nd) (k : Int), M[j]? = some y → k ≠ ((b + j : Nat) : Int) → covs (M.modify j (setOver k)) b = (covs M b).set j (.int .i64 k)
  | [], b, j, y, k, h, _ => by simp at h
  | m :: r, b, 0, y, k, h, hk => by
    simp only [List.modify_zero_cons, covs, List.set_cons_zero]
    congr 2
    show (if k = (b : Int) then -1 else k) = k
    rw [if_neg (by simpa using hk)]
  | m :: r, b, j + 1, y, k, h, hk => by
    rw [List.modify_succ_cons, covs, covs, List.set_cons_succ, covs_cover r (b + 1) j y k (by simpa using h) (by rw [show b + 1 + j = b + (j + 1) by omega]; exact hk)]
theorem seen_cover (M : List Nd) (j : Nat) (k : Int) : bares (M.modify j (setOver k)) = bares M ∧ deads (M.modify j (setOver k)) = deads M ∧ ups (M.modify j (setOver k)) = ups M ∧ devL (M.modify j (setOver k)) 0 = devL M 0 := by
  have e : ∀ {α : Type} (f : Nd → α), (∀ n, f (setOver k n) = f n) → (M.modify j (setOver k)).map f = M.map f := fun f hf => by
    apply List.ext_getElem?
    intro i
    rw [List.getElem?_map, List.getElem?_map, List.getElem?_modify]
    cases M[i]? with
    | none => rfl
    | some x =>
      show Option.map f (some (if j = i then setOver k x else x)) = _
      split
      · show some (f (setOver k x)) = _; rw [hf]; rfl
      · rfl
  refine ⟨?_, e _ (fun _ => rfl), e _ (fun _ => rfl), ?_⟩
  · have hb : ∀ l : List Nd, bares l = (l.map Nd.bare).flatten := fun l => by
      induction l with
      | nil => rfl
      | cons a r ih => rw [bares, ih]; rfl
    rw [hb, hb, e Nd.bare (fun _ => rfl)]
  · exact devL_num _ _ 0 (e numOf (fun _ => rfl))
end Go.Proofs.YtknfhphhcnbndaaGreatDoor.V

namespace Go.Proofs.YtknfhphhcnbndaaGreatDoor.V
open List renaming setIfInBounds_toArray → lt, set_cons_zero → l0, set_cons_succ → ls
open Go.RowKit Go.BigFrame

theorem do_cover {M : List Nd} {c : Chg} {j : Nat} {y : Nd} (hw : wrongM M c = 0) (hk : c.kind = 7) (ht : c.to = (j : Int)) (hy : M[j]? = some y) : doM M c = coveredM M j c.a y.up ∧ doR M c = (M.length : Int) := by
  have ha : atM M c.to = some y := by unfold atM; rw [ht, if_pos ⟨by omega, by have := (List.getElem?_eq_some_iff.1 hy).1; omega⟩, Int.toNat_natCast]; exact hy
  unfold doM doR carryM
  rw [if_pos hw, if_pos hw, if_neg (by omega), if_neg (by omega), if_neg (by omega), if_neg (by omega), if_pos hk, ha, ht, Int.toNat_natCast]
  exact ⟨rfl, rfl⟩
theorem Rs.of_cover {M : List Nd} {L : List It} {v : Rv} {w : World} {m up : Int} {j : Nat} {y : Nd} (hI : DevInv M) (hj : M[j]? = some y)
    (H : ROwn w v (M.length + 1) (bares M ++ (addedNd (dirAt ((devL M 0).length + 1) m up) (dirAt ((devL M 0).length + 1) m up).dev M).bare) L.length (itCells L) (M.length + 1) ((covs M 0 ++ [Value.int .i64 (-1)]).set j (.int .i64 (M.length : Int))) (M.length + 1) (deads M ++ [.bool false]) (M.length + 1) (ups M ++ [.int .i64 up]) ((devL M 0).length + 1) (ints (devL M 0) ++ [.int .i64 (M.length : Int)])) : Rs (coveredM M j m up) L v w := by
  obtain ⟨a, b, c, e, f, g⟩ := H
  have hjl := (List.getElem?_eq_some_iff.1 hj).1
  obtain ⟨nn, hnn⟩ : ∃ nn, addedNd (dirNd (m % 4096) up) (((devL M 0).length : Int) + 1) M = nn := ⟨_, rfl⟩
  have hb : (addedNd (dirAt ((devL M 0).length + 1) m up) (dirAt ((devL M 0).length + 1) m up).dev M).bare = nn.bare := by rw [← hnn]; rfl
  have hino : nn.ino = 1 := by
    rw [← hnn]
    show 1 + cntD (((devL M 0).length : Int) + 1) M = 1
    rw [cntD_zero fun n hn => ?_]
    · rfl
    · obtain ⟨i, hi⟩ := List.mem_iff_getElem?.1 hn
      have := (hI i n hi).2.1
      omega
  have hov : nn.over = (M.length : Int) := by rw [← hnn]; rfl
  obtain ⟨s1, s2, s3, s4⟩ := seen_cover (M ++ [nn]) j (M.length : Int)
  have hcm : coveredM M j m up = (M ++ [nn]).modify j (setOver (M.length : Int)) := by unfold coveredM; rw [hnn]
  have hl : (coveredM M j m up).length = M.length + 1 := by rw [hcm, List.length_modify]; simp
  rw [hb] at a
  refine ⟨?_, b, ?_, ?_, ?_, ?_⟩
  · rw [hl, hcm, s1, bares_append, bares_one]; exact a
  · rw [hl, hcm, covs_cover (M ++ [nn]) 0 j y (M.length : Int) (by rw [List.getElem?_append_left hjl]; exact hj) (by omega), covs_append]
    have : covs [nn] (0 + M.length) = [.int .i64 (-1)] := by
      rw [Nat.zero_add, covs, covs]
      unfold cov
      rw [if_pos hov]
    rw [this]; exact c
  · rw [hl, hcm, s2]; unfold deads; rw [List.map_append]; show w.ownsRow 0 _ 1 v.d _ (_ ++ [.bool nn.dead]); rw [show nn.dead = false by rw [← hnn]; rfl]; exact e
  · rw [hl, hcm, s3]; unfold ups; rw [List.map_append]; show w.ownsRow 0 _ 1 v.a _ (_ ++ [.int .i64 nn.up]); rw [show nn.up = up by rw [← hnn]; rfl]; exact f
  · have hd : devL (coveredM M j m up) 0 = devL M 0 ++ [(M.length : Int)] := by
      rw [hcm, s4, devL_append]
      simp [devL, hino]
    rw [hd, List.length_append]; unfold ints at g ⊢; rw [List.map_append]; exact g
/-- What the region of a device more reads. -/
structure S7 (W : World) (gn : Nat) (mN cn : Nat) (al : Option Addr) (mL cl gc cc : Nat) (ad : Option Addr) (cd ga ca : Nat) (af : Option Addr) (mF cf : Nat) (c : Chg) (j : Nat) (u : Int) (w : World) : Prop where
  din : DIn W ⟨.slice (some ⟨gn, 0, none⟩) mN cn, .slice al mL cl, .slice (some ⟨gc, 0, none⟩) mN cc, .slice ad mN cd, .slice (some ⟨ga, 0, none⟩) mN ca, .slice af mF cf⟩ c w
  k2 : w.cell? ⟨W.heap.size + 1, 2, none⟩ = some (.int .i64 (j : Int))
  k5 : w.cell? ⟨W.heap.size + 1, 5, none⟩ = some (.int .i64 c.a)
  n : w.cell? ⟨ga, j, none⟩ = some (.int .i64 u)
  s0 : w.cell? ⟨W.heap.size, 0, none⟩ = some (.slice (some ⟨gn, 0, none⟩) mN cn)
  s1 : w.cell? ⟨W.heap.size, 1, none⟩ = some (.slice al mL cl)
  s2 : w.cell? ⟨W.heap.size, 2, none⟩ = some (.slice (some ⟨gc, 0, none⟩) mN cc)
  s3 : w.cell? ⟨W.heap.size, 3, none⟩ = some (.slice ad mN cd)
  s4 : w.cell? ⟨W.heap.size, 4, none⟩ = some (.slice (some ⟨ga, 0, none⟩) mN ca)
  s5 : w.cell? ⟨W.heap.size, 5, none⟩ = some (.slice af mF cf)
theorem S7.keep {W : World} {gn mN cn : Nat} {al : Option Addr} {mL cl gc cc : Nat} {ad : Option Addr} {cd ga ca : Nat} {af : Option Addr} {mF cf : Nat} {c : Chg} {j : Nat} {u : Int} {w w' : World}
    (h : S7 W gn mN cn al mL cl gc cc ad cd ga ca af mF cf c j u w) (hb : Below w.heap.size w w') : S7 W gn mN cn al mL cl gc cc ad cd ga ca af mF cf c j u w' :=
  ⟨h.din.keep hb, cell_keep h.k2 hb, cell_keep h.k5 hb, cell_keep h.n hb, cell_keep h.s0 hb, cell_keep h.s1 hb, cell_keep h.s2 hb, cell_keep h.s3 hb, cell_keep h.s4 hb, cell_keep h.s5 hb⟩

set_option maxRecDepth 100000 in
set_option maxHeartbeats 8000000 in
theorem rdo_cover (M : List Nd) (L : List It) (v : Rv) (c : Chg) (w : World) (H : Rs M L v w) (R : Rel M L) (hM : M.length ≤ 1000000) (hL : L.length ≤ 1000000) (hn : 0 < M.length) (hs : c.name.size ≤ 1000000) (hts : c.text.size ≤ 1000000) (hw : wrongM M c = 0) (hk : c.kind = 7)
    (j : Nat) (y : Nd) (ht : c.to = (j : Int)) (hx : M[j]? = some y) (hI : DevInv M) :
    Calls Tryz.prog 41 #[rvV v, chgV c] w (RDoP M L c w) := by
  have HKK := Lib.hid hk
  have HRs := Lib.hid (do_cover hw hk ht hx)
  have HC := Lib.hid (fun w' hb => rwrong_any M L v c w' (H.keep hb) R hM hL hn hs hts)
  have HH := Lib.hid H
  have D0 := DIn.begin w v c
  have HW := Lib.hid hw
  rw [hw] at HC
  clear hw
  obtain ⟨gn, cn, al, cl, gc, cc, ad, cd, aa, ca, af, cf, rfl⟩ := H.at_ hn
  obtain ⟨ga, ca', ea, _, _⟩ := owns_some H.ha hn
  simp only [Value.slice.injEq, true_and] at ea
  obtain ⟨rfl, rfl⟩ := ea
  clear H
  have HT := Lib.hid ht
  have HX := Lib.hid hx
  have hjl : j < M.length := (List.getElem?_eq_some_iff.1 hx).1
  clear ht hx hk
  unfold chgBox nilsR at D0
  unfold rvV chgV at HC
  unfold rvV chgV
  go_enter Tryz.func41, Tryz.ntmps41
  go_upto_region 1 with fail
  generalize hw2 : ((w.alloc _).alloc _).alloc _ = w2 at D0
  clear hw2
  have HD := Lib.hid D0
  have hb0 := D0.box
  have hc0 := D0.chg
  unfold chgBox at hc0
  have HB0 := Lib.hid hb0
  have HC0 := Lib.hid hc0
  clear hb0 hc0 D0
  go_wp2_with (first
    | fail
    | (refine wpList_load_row rfl 31 (.tmp 2) rfl w.heap.size rfl _ _ _ _ HB0.out Tryz.underlying31 rfl (by rw [sizeRef]; rfl) ?_)
    | (refine wpList_load_row rfl 89 (.tmp 3) rfl (w.heap.size + 1) rfl _ _ _ _ HC0.out Tryz.underlying89 rfl (by rw [sizeChg]; rfl) ?_))
  refine (HC.out _ HD.out.below).mono ?_
  rintro e2 w3 ⟨rfl, hb3⟩
  have D3 := HD.out.keep hb3
  have HD3 := Lib.hid D3
  have HR3 := Lib.hid (HH.out.keep D3.below)
  obtain ⟨q0, q1, q2, q3, q4, q5, q6, q7⟩ := chg_cells D3.chg
  have bx : ∀ j u, (#[.slice (some ⟨gn, 0, none⟩) M.length cn, .slice al L.length cl, .slice (some ⟨gc, 0, none⟩) M.length cc, .slice ad M.length cd, .slice (some ⟨ga, 0, none⟩) M.length ca, .slice af (devL M 0).length cf] : Array Value)[j]? = some u → w3.cell? ⟨w.heap.size, j, none⟩ = some u := fun j u hu => by rw [cell_of_row _ _ _ _ _ _ D3.box]; exact hu
  have p0 := bx 0 _ rfl
  have p1 := bx 1 _ rfl
  have p2 := bx 2 _ rfl
  have p3 := bx 3 _ rfl
  have p4 := bx 4 _ rfl
  have p5 := bx 5 _ rfl
  have n0 : w3.cell? ⟨ga, j, none⟩ = some (.int .i64 y.up) := owns_cell (HH.out.keep D3.below).ha (by unfold ups; rw [List.getElem?_map, HX.out]; rfl)
  rw [HT.out] at q2
  rw [HKK.out] at q0
  clear D3 hb3 HD HB0 HC0 bx
  have hdl := devL_len M 0
  have HADD := Lib.hid (fun wx (h : S7 w gn M.length cn al L.length cl gc cc ad cd ga ca af (devL M 0).length cf c j y.up wx) => show Calls Tryz.prog 86 #[.agg #[.slice (some ⟨gn, 0, none⟩) M.length cn, .slice al L.length cl, .slice (some ⟨gc, 0, none⟩) M.length cc, .slice ad M.length cd, .slice (some ⟨ga, 0, none⟩) M.length ca, .slice af (devL M 0).length cf], .int .i64 c.a, .int .i64 y.up] wx _ from rdev_any M L ⟨.slice (some ⟨gn, 0, none⟩) M.length cn, .slice al L.length cl, .slice (some ⟨gc, 0, none⟩) M.length cc, .slice ad M.length cd, .slice (some ⟨ga, 0, none⟩) M.length ca, .slice af (devL M 0).length cf⟩ c.a y.up wx (devL M 0) (rown_rs (HH.out.keep h.din.below)) hM (by omega))
  have HSA := Lib.hid (show S7 w gn M.length cn al L.length cl gc cc ad cd ga ca af (devL M 0).length cf c j y.up w3 from ⟨HD3.out, q2, q5, n0, p0, p1, p2, p3, p4, p5⟩)
  go_upto_region 18 with fail
  clear p0 p1 p2 p3 p4 p5 q0 q1 q2 q3 q4 q5 q6 q7 n0
  refine Till.region (z := 10) (S := S7 w gn M.length cn al L.length cl gc cc ad cd ga ca af (devL M 0).length cf c j y.up) (by kernel_rfl) (S7.keep HSA.out (Below.refl _ _).drew) (fun hHeld => ?_)
  refine Till.take (i := 0) (oi := ⟨some 90, .load 31 (.tmp 2), 31, "ref.go:142", #[], none⟩) (v := .agg #[.slice (some ⟨gn, 0, none⟩) M.length cn, .slice al L.length cl, .slice (some ⟨gc, 0, none⟩) M.length cc, .slice ad M.length cd, .slice (some ⟨ga, 0, none⟩) M.length ca, .slice af (devL M 0).length cf]) rfl (by kernel_rfl) (by kernel_rfl) (by kernel_rfl) (by kernel_rfl) (fun _ _ _ h => h) (Or.inl ⟨by rfl, fun w0 hS0 => ?_⟩) (by assumption) ?_
  · have c0 := hS0.s0; have c1 := hS0.s1; have c2 := hS0.s2; have c3 := hS0.s3; have c4 := hS0.s4; have c5 := hS0.s5; go_simp
  try simp only [Act.put, lt, l0, ls]
  refine Till.take (i := 1) (oi := ⟨some 91, .fieldAddr 89 (.tmp 3) 5, 0, "ref.go:142", #[], none⟩) (v := .pointer (some ⟨(w.heap.size + 1), 5, none⟩)) rfl (by kernel_rfl) (by kernel_rfl) (by kernel_rfl) (by kernel_rfl) (fun _ _ _ h => h) (Or.inl ⟨by rfl, fun w0 hS0 => ?_⟩) (by assumption) ?_
  · go_simp
  try simp only [Act.put, lt, l0, ls]
  refine Till.take (i := 2) (oi := ⟨some 92, .load 3 (.tmp 91), 3, "ref.go:142", #[⟨1, .data⟩], none⟩) (v := .int .i64 (c.a)) rfl (by kernel_rfl) (by kernel_rfl) (by kernel_rfl) (by kernel_rfl) (fun _ _ _ h => h) (Or.inl ⟨by rfl, fun w0 hS0 => ?_⟩) (by assumption) ?_
  · have c := hS0.k5; go_simp
  try simp only [Act.put, lt, l0, ls]
  refine Till.take (i := 3) (oi := ⟨some 93, .fieldAddr 31 (.tmp 2) 4, 0, "ref.go:142", #[], none⟩) (v := .pointer (some ⟨w.heap.size, 4, none⟩)) rfl (by kernel_rfl) (by kernel_rfl) (by kernel_rfl) (by kernel_rfl) (fun _ _ _ h => h) (Or.inl ⟨by rfl, fun w0 hS0 => ?_⟩) (by assumption) ?_
  · go_simp
  try simp only [Act.put, lt, l0, ls]
  refine Till.take (i := 4) (oi := ⟨some 94, .load 28 (.tmp 93), 28, "ref.go:142", #[⟨3, .data⟩], none⟩) (v := .slice (some ⟨ga, 0, none⟩) M.length ca) rfl (by kernel_rfl) (by kernel_rfl) (by kernel_rfl) (by kernel_rfl) (fun _ _ _ h => h) (Or.inl ⟨by rfl, fun w0 hS0 => ?_⟩) (by assumption) ?_
  · have c := hS0.s4; go_simp
  try simp only [Act.put, lt, l0, ls]
  refine Till.take (i := 5) (oi := ⟨some 95, .fieldAddr 89 (.tmp 3) 2, 0, "ref.go:142", #[], none⟩) (v := .pointer (some ⟨(w.heap.size + 1), 2, none⟩)) rfl (by kernel_rfl) (by kernel_rfl) (by kernel_rfl) (by kernel_rfl) (fun _ _ _ h => h) (Or.inl ⟨by rfl, fun w0 hS0 => ?_⟩) (by assumption) ?_
  · go_simp
  try simp only [Act.put, lt, l0, ls]
  refine Till.take (i := 6) (oi := ⟨some 96, .load 3 (.tmp 95), 3, "ref.go:142", #[⟨5, .data⟩], none⟩) (v := .int .i64 ((j : Int))) rfl (by kernel_rfl) (by kernel_rfl) (by kernel_rfl) (by kernel_rfl) (fun _ _ _ h => h) (Or.inl ⟨by rfl, fun w0 hS0 => ?_⟩) (by assumption) ?_
  · have c := hS0.k2; go_simp
  try simp only [Act.put, lt, l0, ls]
  refine Till.take (i := 7) (oi := ⟨some 97, .indexAddr 28 (.tmp 94) (.tmp 96), 0, "ref.go:142", #[⟨4, .data⟩, ⟨6, .data⟩], none⟩) (v := .pointer (some ⟨ga, j, none⟩)) rfl (by kernel_rfl) (by kernel_rfl) (by kernel_rfl) (by kernel_rfl) (fun _ _ _ h => h) (Or.inl ⟨by rfl, fun w0 hS0 => ?_⟩) (by assumption) ?_
  · go_simp
  try simp only [Act.put, lt, l0, ls]
  refine Till.take (i := 8) (oi := ⟨some 98, .load 3 (.tmp 97), 3, "ref.go:142", #[⟨7, .data⟩], none⟩) (v := .int .i64 (y.up)) rfl (by kernel_rfl) (by kernel_rfl) (by kernel_rfl) (by kernel_rfl) (fun _ _ _ h => h) (Or.inl ⟨by rfl, fun w0 hS0 => ?_⟩) (by assumption) ?_
  · have c := hS0.n; go_simp
  try simp only [Act.put, lt, l0, ls]
  refine Till.next (i := 9) (o := ⟨some 99, .call ⟨.value (.func 86), #[.tmp 90, .tmp 92, .tmp 98], #[31, 3, 3]⟩, 31, "ref.go:142", #[⟨0, .data⟩, ⟨2, .data⟩, ⟨8, .data⟩], none⟩) (by kernel_rfl) rfl (fun K hK => ?_)
  go_simp
  refine (HADD.out _ hHeld).mono ?_
  rintro e w4 ⟨v3, rfl, ho3, hb3⟩
  obtain ⟨an3, cn3, al3, cl3, ac3, cc3, ad3, cd3, aa3, ca3, af3, cf3, rfl⟩ := rown_forms ho3
  unfold rvV
  have HO3 := Lib.hid ho3
  have HD5 := Lib.hid (hHeld.din.keep hb3)
  obtain ⟨t0, u0, t1, u1, t2, u2, t3, u3, t4, u4, t5, u5, h6, b6⟩ := six (.slice an3 (M.length + 1) cn3) (.slice al3 L.length cl3) (.slice ac3 (M.length + 1) cc3) (.slice ad3 (M.length + 1) cd3) (.slice aa3 (M.length + 1) ca3) (.slice af3 ((devL M 0).length + 1) cf3) HD5.out.box
  have H6 := Lib.hid h6
  have B6 := Lib.hid b6
  clear h6 b6 ho3
  go_wp2_with fail
  refine hK.out _ _ (fun _ => S7.keep hHeld hb3) ?_
  clear hK K hb3
  try simp only [Act.put, lt, l0, ls]
  refine Till.next (i := 10) (o := ⟨none, .store 31 (.tmp 2) (.tmp 99), 0, "ref.go:142", #[⟨9, .data⟩, ⟨9, .chain⟩, ⟨0, .phase⟩, ⟨1, .phase⟩, ⟨2, .phase⟩, ⟨3, .phase⟩, ⟨4, .phase⟩, ⟨5, .phase⟩, ⟨6, .phase⟩, ⟨7, .phase⟩, ⟨8, .phase⟩, ⟨9, .phase⟩], none⟩) (by kernel_rfl) rfl (fun K hK => ?_)
  go_simp
  refine hK.out _ _ (fun q => absurd rfl q) ?_
  clear hK K
  try simp only [Act.put, lt, l0, ls]
  refine Till.done (by kernel_rfl) ?_
  have D6 := HD5.out.but (v' := ⟨.slice an3 (M.length + 1) cn3, .slice al3 L.length cl3, .slice ac3 (M.length + 1) cc3, .slice ad3 (M.length + 1) cd3, .slice aa3 (M.length + 1) ca3, .slice af3 ((devL M 0).length + 1) cf3⟩) B6.out H6.out
  have O6 := But.rown B6.out HD5.out.box HO3.out
  generalize hw6 : (((((w4.setCell _ _).setCell _ _).setCell _ _).setCell _ _).setCell _ _).setCell _ _ = w6 at D6 O6 ⊢
  clear hw6
  obtain ⟨i0, hi, hz0, hz1, hz2⟩ := info_parts infoInt
  have HMX := Lib.hid (show 0 + (M.length + 1) ≤ maxLen from by unfold maxLen; omega)
  have hB6 : w.heap.size < w6.heap.size := heap_lt D6.box
  have p2 : w6.cell? ⟨w.heap.size, 2, none⟩ = some (.slice ac3 (M.length + 1) cc3) := by rw [cell_of_row _ _ _ _ _ _ D6.box]; rfl
  have p2a : ∀ o, (w6.alloc o).cell? ⟨w.heap.size, 2, none⟩ = some (.slice ac3 (M.length + 1) cc3) := fun o => (World.cell?_alloc_past _ _ _ hB6).trans p2
  have HD6 := Lib.hid D6
  have HO6 := Lib.hid O6
  have HS6 := Lib.hid (show ∀ o, (w6.alloc o).ownsRow 0 3 1 (.slice ac3 (M.length + 1) cc3) (M.length + 1) (covs M 0 ++ [.int .i64 (-1)]) from fun o => O6.2.2.1.alloc o)
  have HC1 := Lib.hid (show ∀ u ∈ covs M 0 ++ [Value.int .i64 (-1)], u.oneCell' = true from fun u hu => by
    rcases List.mem_append.1 hu with q | q
    · exact covs_one M 0 u q
    · rw [List.mem_singleton.1 q]; rfl)
  have HJL := Lib.hid (show j < (covs M 0 ++ [Value.int .i64 (-1)]).length by rw [List.length_append, covs_len]; simp; omega)
  clear D6 O6 hHeld HD5 HO3 H6 B6
  go_upto_region 20 with (at_builtin; refine wpList_append_row rfl (.tmp 100) (.tmp 102) 28 rfl w6.heap.size 3 i0 _ 1 8 Tryz.underlying28 hi hz0 hz1 hz2 rfl (by decide) (.slice (some ⟨w6.heap.size, 0, none⟩) 0 0) 0 [] rfl (owns_made (Nat.le_refl _)) (.slice ac3 (M.length + 1) cc3) (M.length + 1) (covs M 0 ++ [.int .i64 (-1)]) rfl (HS6.out _) HC1.out HMX.out (by omega) (by simp) ?_; intro v7 w7 hown7 hg7; obtain ⟨g7, cap7, e7, _, _⟩ := owns_some hown7 (by omega); rw [Nat.zero_add] at e7; subst e7; have hcp := coverC (u := .int .i64 (M.length : Int)) HD6.out HO6.out HJL.out hown7 hg7; have HCP := Lib.hid hcp; have cc0 := hcp.1.1; have ff0 := hcp.1.2; clear hown7 hg7 hcp)
  have D8 := HCP.out.2.1
  have E8 := HCP.out.2.2.1
  have D9 := HCP.out.2.2.2.1
  have O9 := HCP.out.2.2.2.2
  generalize hw8 : w7.setCell ⟨w.heap.size, 2, none⟩ (.slice (some ⟨g7, 0, none⟩) (M.length + 1) cap7) = w8 at D8 E8 D9 O9 ⊢
  obtain ⟨q0, q1, q2, q3, q4, q5, q6, q7⟩ := chg_cells D8.chg
  rw [HT.out] at q2
  have s2 : w8.cell? ⟨w.heap.size, 2, none⟩ = some (.slice (some ⟨g7, 0, none⟩) (M.length + 1) cap7) := by rw [cell_of_row _ _ _ _ _ _ D8.box]; rfl
  have e8 : w8.cell? ⟨g7, j, none⟩ = some ((covs M 0 ++ [Value.int .i64 (-1)])[j]'HJL.out) := by rw [E8.1, List.getElem?_eq_getElem HJL.out]
  have f8 := E8.2
  have HD9 := Lib.hid D9
  have HO9 := Lib.hid O9
  clear hw8 D8 E8 D9 O9 HCP cc0 ff0 hi hz0 hz1 hz2 p2 p2a hB6
  go_upto_region 21 with fail
  generalize hw9 : w8.setCell ⟨g7, j, none⟩ (.int .i64 (M.length : Int)) = w9 at HD9 HO9 ⊢
  have HB8 := Lib.hid HD9.out.box
  have hr8 := HD9.out.res
  unfold nilsR at hr8
  have HR8 := Lib.hid hr8
  clear hw9 hr8 q0 q1 q2 q3 q4 q5 q6 q7 s2 e8 f8
  go_wp2_with (first
    | fail
    | (refine wpList_load_row rfl 31 (.tmp 2) rfl w.heap.size rfl _ _ _ _ HB8.out Tryz.underlying31 rfl (by rw [sizeRef]; rfl) ?_)
    | (refine wpList_store_row rfl 31 (.tmp 4) (.tmp 111) rfl (w.heap.size + 1 + 1) _ rfl rfl _ _ HR8.out sizeRef rfl (one6 _ _ _ _ _ _ _ _ _ _ _ _ _ _ _ _ _ _) ?_))
  have hrs := Rs.of_cover hI HX.out HO9.out
  refine bodyPost_ret (v := .tuple #[.agg #[.slice an3 (M.length + 1) cn3, .slice al3 L.length cl3, .slice (some ⟨g7, 0, none⟩) (M.length + 1) cap7, .slice ad3 (M.length + 1) cd3, .slice aa3 (M.length + 1) ca3, .slice af3 ((devL M 0).length + 1) cf3], .int .i64 (M.length : Int), .int .i64 0]) ?_ rfl ⟨⟨.slice an3 (M.length + 1) cn3, .slice al3 L.length cl3, .slice (some ⟨g7, 0, none⟩) (M.length + 1) cap7, .slice ad3 (M.length + 1) cd3, .slice aa3 (M.length + 1) ca3, .slice af3 ((devL M 0).length + 1) cf3⟩, L, ?_, ?_, ?_, by omega, ?_⟩
  · exact results_do rfl (setRow_heap _ _ _ _ _ _ HR8.out) rfl
  · rw [HRs.out.2, HW.out]; rfl
  · rw [HRs.out.1]
    exact (but_setRow HR8.out _).rs HR8.out hrs
  · rw [HRs.out.1]
    exact R.covered
  · exact (but_setRow HR8.out _).below HD9.out.below (by omega) HD9.out.below.size
end Go.Proofs.YtknfhphhcnbndaaGreatDoor.V

namespace Go.Proofs.YtknfhphhcnbndaaGreatDoor.V
open List renaming setIfInBounds_toArray → lt, set_cons_zero → l0, set_cons_succ → ls
open Go.RowKit

theorem rdo_any (M : List Nd) (L : List It) (v : Rv) (c : Chg) (w : World) (H : Rs M L v w) (R : Rel M L) (hI : DevInv M) (hM : M.length ≤ 1000000) (hL : L.length ≤ 1000000) (hn : 0 < M.length) (hs : c.name.size ≤ 1000000) (hts : c.text.size ≤ 1000000) (hc : c.n ≤ 9223372036854775807) :
    Calls Tryz.prog 41 #[rvV v, chgV c] w (RDoP M L c w) := by
  by_cases hw : wrongM M c = 0
  · rcases wrong_cases hw with ⟨x, hx, hk, hl⟩ | ⟨k2, x, y, hx, hy, _⟩ | ⟨k7, hl, y, hy⟩ | ⟨hk, y, hy⟩
    · obtain ⟨i, hi, hxi⟩ := atM_some hx
      rcases hk with k0 | ⟨k1, hn0⟩ | k3
      · exact rdo_add0 M L v c w H R hM hL hn hs hts hw k0 i x hi hxi
      · exact rdo_add1 M L v c w H R hM hL hn hs hts hw hn0 hc k1 i x hi hxi
      · exact rdo_add3 M L v c w H R hM hL hn hs hts hw k3 i x hi hxi
    · obtain ⟨i, hi, hxi⟩ := atM_some hx
      obtain ⟨j, hj, hyj⟩ := atM_some hy
      exact rdo_share M L v c w H R hM hL hn hs hts hw k2 i x hi hxi j hj (List.getElem?_eq_some_iff.1 hyj).1
    · obtain ⟨j, hj, hyj⟩ := atM_some hy
      exact rdo_cover M L v c w H R hM hL hn hs hts hw k7 j y hj hyj hI
    · obtain ⟨j, hj, hyj⟩ := atM_some hy
      rcases hk with k4 | k5 | ⟨k6, h6⟩ | k8
      · exact rdo_set4 M L v c w H R hM hL hn hs hts hw k4 j y hj hyj (fun e => by omega)
      · exact rdo_set5 M L v c w H R hM hL hn hs hts hw k5 j y hj hyj (fun e => by omega)
      · exact rdo_set6 M L v c w H R hM hL hn hs hts hw k6 j y hj hyj (fun _ => h6)
      · exact rdo_set8 M L v c w H R hM hL hn hs hts hw k8 j y hj hyj (fun e => by omega)
  · exact rdo_refused M L v c w H R hM hL hn hs hts hw
end Go.Proofs.YtknfhphhcnbndaaGreatDoor.V

namespace Go.Proofs.YtknfhphhcnbndaaGreatDoor.V
open List renaming setIfInBounds_toArray → lt, set_cons_zero → l0, set_cons_succ → ls
open Go.RowKit

def chgL (c : Chg) : List Value := [.int .i64 c.kind, .int .i64 c.at_, .int .i64 c.to, .string c.name, .string c.text, .int .i64 c.a, .int .i64 c.b, .int .i64 c.n]
/-- The slice at a holds these changes. -/
def IsChgs (w : World) (a : Option Addr) (cs : List Chg) : Prop := cs = [] ∨ ∃ g o, a = some ⟨g, o, none⟩ ∧ ∀ (k : Nat) (c : Chg), cs[k]? = some c → w.rangeAt g (o + k * 8) (chgL c)
theorem IsChgs.keep {w w' : World} {a : Option Addr} {cs : List Chg} (h : IsChgs w a cs) (hb : Below w.heap.size w w') : IsChgs w' a cs := by
  rcases h with h | ⟨g, o, h1, h2⟩
  · exact .inl h
  · exact .inr ⟨g, o, h1, fun k c hk j v hj => cell_keep (h2 k c hk j v hj) hb⟩
theorem IsChgs.at_ {w : World} {a : Option Addr} {cs : List Chg} (h : IsChgs w a cs) {k : Nat} {c : Chg} (hk : cs[k]? = some c) : ∃ g o, a = some ⟨g, o, none⟩ ∧ w.rangeAt g (o + k * 8) (chgL c) := by
  rcases h with h | ⟨g, o, h1, h2⟩
  · rw [h] at hk; simp at hk
  · exact ⟨g, o, h1, h2 k c hk⟩
def smallC (c : Chg) : Prop := c.name.size ≤ 300 ∧ c.text.size ≤ 5000
def FewL (cs : List Chg) : Prop := ∀ (k : Nat) (c : Chg), k < 400 → cs[k]? = some c → smallC c
def FewRel (cs : List Chg) (w : World) (v : Value) (wr : World) : Prop := ∃ k : Nat, k ≤ cs.length ∧ k ≤ 400 ∧ v = .int .i64 (k : Int) ∧ wr = w ∧ Hid (∀ (j : Nat) (c : Chg), j < k → cs[j]? = some c → smallC c)

set_option maxRecDepth 100000 in
set_option maxHeartbeats 4000000 in
theorem few_any (cs : List Chg) (a : Option Addr) (cap : Nat) (n : Int) (w : World) (H : IsChgs w a cs) (hl : cs.length ≤ 9223372036854775807) (hz : ∀ c ∈ cs, c.name.size ≤ 9223372036854775807 ∧ c.text.size ≤ 9223372036854775807) :
    Calls Tryz.prog 14 #[.slice a cs.length cap, .int .i64 n] w fun e w' => ∃ b : Bool, e = .returned (.bool b) ∧ (b = true ↔ FewL cs ∧ (cs.length : Int) ≤ n) ∧ w' = w := by
  have HH := Lib.hid H
  have HZ := Lib.hid hz
  clear H hz
  go_enter Tryz.func14, Tryz.ntmps14
  go_wp2_with fail
  go_loopw [5] (FewRel cs w) (fun v _ => cs.length - (intOf v).toNat)
  case atStart => exact ⟨0, Nat.zero_le _, by omega, rfl, rfl, Lib.hid (fun j c hj => by omega)⟩
  case round =>
    obtain ⟨k, hk, hk4, rfl, rfl, hno⟩ := hrel
    by_cases hlt : k < cs.length
    · have d1 : decide ((k : Int) < (cs.length : Int)) = true := decide_eq_true (by omega)
      by_cases h4 : k < 400
      · have d2 : decide ((k : Int) < 400) = true := decide_eq_true (by omega)
        obtain ⟨c, hc⟩ : ∃ c, cs[k]? = some c := ⟨_, List.getElem?_eq_getElem hlt⟩
        obtain ⟨g, o, rfl, hr⟩ := HH.out.at_ hc
        have n3 : wr.cell? ⟨g, o + k * 8 + 3, none⟩ = some (.string c.name) := hr 3 _ rfl
        have n4 : wr.cell? ⟨g, o + k * 8 + 4, none⟩ = some (.string c.text) := hr 4 _ rfl
        have HCc := Lib.hid hc
        obtain ⟨z1, z2⟩ := HZ.out c (List.mem_of_getElem? hc)
        clear hr hc
        by_cases hn : 300 < c.name.size
        · have e1 : decide ((300 : Int) < (c.name.size : Int)) = true := decide_eq_true (by omega)
          have HB := Lib.hid (show ¬ (FewL cs ∧ (cs.length : Int) ≤ n) from fun e => by have := (e.1 k c h4 HCc.out).1; omega)
          go_wp2_with fail
          go_ret
          exact ⟨false, rfl, ⟨(fun e => absurd e (by decide)), fun e => absurd e HB.out⟩, rfl⟩
        · have e1 : decide ((300 : Int) < (c.name.size : Int)) = false := decide_eq_false (by omega)
          by_cases ht : 5000 < c.text.size
          · have e2 : decide ((5000 : Int) < (c.text.size : Int)) = true := decide_eq_true (by omega)
            have HB := Lib.hid (show ¬ (FewL cs ∧ (cs.length : Int) ≤ n) from fun e => by have := (e.1 k c h4 HCc.out).2; omega)
            go_wp2_with fail
            go_ret
            exact ⟨false, rfl, ⟨(fun e => absurd e (by decide)), fun e => absurd e HB.out⟩, rfl⟩
          · have e2 : decide ((5000 : Int) < (c.text.size : Int)) = false := decide_eq_false (by omega)
            have HN := Lib.hid (show ∀ (j : Nat) (c : Chg), j < k + 1 → cs[j]? = some c → smallC c from fun j c' hj hj' => by
              rcases Nat.lt_or_ge j k with q | q
              · exact hno.out j c' q hj'
              · obtain rfl : j = k := by omega
                rw [HCc.out] at hj'
                obtain rfl := Option.some.inj hj'
                exact ⟨by omega, by omega⟩)
            go_wp2_with fail
            go_roundw
            case rel => exact ⟨k + 1, by omega, by omega, by simp, rfl, Lib.hid HN.out⟩
            case measure => simp [intOf]; omega
      · have d2 : decide ((k : Int) < 400) = false := decide_eq_false (by omega)
        have HF := Lib.hid (show FewL cs from fun j c hj hc => hno.out j c (by omega) hc)
        go_wp2_with fail
        go_ret
        exact ⟨decide ((cs.length : Int) ≤ n), rfl, ⟨fun e => ⟨HF.out, of_decide_eq_true e⟩, fun e => decide_eq_true e.2⟩, rfl⟩
    · have d1 : decide ((k : Int) < (cs.length : Int)) = false := decide_eq_false (by omega)
      have HF := Lib.hid (show FewL cs from fun j c hj hc => hno.out j c (by have := (List.getElem?_eq_some_iff.1 hc).1; omega) hc)
      go_wp2_with fail
      go_ret
      exact ⟨decide ((cs.length : Int) ≤ n), rfl, ⟨fun e => ⟨HF.out, of_decide_eq_true e⟩, fun e => decide_eq_true e.2⟩, rfl⟩
end Go.Proofs.YtknfhphhcnbndaaGreatDoor.V

namespace Go.Proofs.YtknfhphhcnbndaaGreatDoor.V
open List renaming setIfInBounds_toArray → lt, set_cons_zero → l0, set_cons_succ → ls
open Go.RowKit

def Few2 (a b : Nat) (n : Nd) : Prop := 0 ≤ n.links ∧ n.links ≤ 2 + (a : Int) ∧ n.ents.length ≤ b
theorem all_modify {M : List Nd} {i : Nat} {f : Nd → Nd} {P P' : Nd → Prop} (h : ∀ n ∈ M, P n) (h1 : ∀ n, P n → P' n) (h2 : ∀ n, P n → P' (f n)) : ∀ n ∈ M.modify i f, P' n := by
  intro n hn
  obtain ⟨j, hj⟩ := List.mem_iff_getElem?.1 hn
  rw [List.getElem?_modify] at hj
  cases hm : M[j]? with
  | none => rw [hm] at hj; cases hj
  | some x =>
    rw [hm] at hj
    have hx := h x (List.mem_of_getElem? hm)
    have e : (if i = j then f x else x) = n := Option.some.inj hj
    rw [← e]
    split
    · exact h2 x hx
    · exact h1 x hx
theorem few_ent {M : List Nd} {a b i : Nat} {s : ByteArray} {id : Int} (h : ∀ n ∈ M, Few2 a b n) : ∀ n ∈ M.modify i (addEnt s id), Few2 a (b + 1) n :=
  all_modify h (fun n hn => ⟨hn.1, hn.2.1, by have := hn.2.2; omega⟩) (fun n hn => ⟨hn.1, hn.2.1, by show (n.ents ++ [(s, id)]).length ≤ _; have := hn.2.2; simp; omega⟩)
theorem few_link {M : List Nd} {a b i : Nat} (h : ∀ n ∈ M, Few2 a b n) : ∀ n ∈ M.modify i moreLinks, Few2 (a + 1) b n :=
  all_modify h (fun n hn => ⟨hn.1, by have := hn.2.1; omega, hn.2.2⟩) (fun n hn => ⟨by show 0 ≤ n.links + 1; have := hn.1; omega, by show n.links + 1 ≤ _; have := hn.2.1; omega, hn.2.2⟩)
theorem few_app {M : List Nd} {a b : Nat} {x : Nd} (h : ∀ n ∈ M, Few2 a b n) (hx : Few2 a b x) : ∀ n ∈ M ++ [x], Few2 a b n := fun n hn => by
  rcases List.mem_append.1 hn with q | q
  · exact h n q
  · obtain rfl : n = x := by simpa using q
    exact hx
theorem few_same {M : List Nd} {a b i : Nat} {f : Nd → Nd} (hf : ∀ n, (f n).links = n.links ∧ (f n).ents = n.ents) (h : ∀ n ∈ M, Few2 a b n) : ∀ n ∈ M.modify i f, Few2 a b n :=
  all_modify h (fun n hn => hn) (fun n hn => by unfold Few2; rw [(hf n).1, (hf n).2]; exact hn)
theorem few_more {a b : Nat} {n : Nd} (h : Few2 a b n) : Few2 (a + 1) (b + 1) n := ⟨h.1, by have := h.2.1; omega, by have := h.2.2; omega⟩
theorem small_few {M : List Nd} {k : Nat} (h : Small M k) : ∀ n ∈ M, Few2 k k n := fun n hn => h.2 n hn
theorem setNd_few (c : Chg) (n : Nd) : (setNd c n).links = n.links ∧ (setNd c n).ents = n.ents := by
  unfold setNd
  repeat' split
  all_goals exact ⟨rfl, rfl⟩
theorem small_built {M : List Nd} {k i : Nat} {s : ByteArray} {n : Nd} {d : Int} (h : Small M k) (hl : M.length < 300) (hn : n.ents = []) (h0 : 0 ≤ n.links) (h2 : n.links ≤ 2) : Small (builtM M i s n d) (k + 1) := by
  unfold builtM
  refine ⟨by rw [List.length_modify, List.length_modify, List.length_append]; simp; omega, ?_⟩
  exact few_link (few_ent (few_app (small_few h) ⟨h0, by show n.links ≤ _; omega, by show n.ents.length ≤ _; rw [hn]; simp⟩))
theorem small_do {M : List Nd} {c : Chg} {k : Nat} (h : Small M k) : Small (doM M c) (k + 1) := by
  have hmore : Small M (k + 1) := ⟨h.1, fun n hn => few_more (small_few h n hn)⟩
  unfold doM
  split
  · rename_i hw
    rcases wrong_cases hw with ⟨x, hx, hk, hl⟩ | ⟨k2, x, y, hx, hy, _⟩ | ⟨k7, hl, y, hy⟩ | ⟨hk, y, hy⟩
    · unfold carryM
      rcases hk with k0 | ⟨k1, _⟩ | k3
      · rw [if_pos k0]; exact small_built h hl rfl (by show (0 : Int) ≤ 2; decide) (by show (2 : Int) ≤ 2; decide)
      · rw [if_neg (by omega), if_pos k1]; exact small_built h hl rfl (by show (0 : Int) ≤ 0; decide) (by show (0 : Int) ≤ 2; decide)
      · rw [if_neg (by omega), if_neg (by omega), if_neg (by omega), if_pos k3]; exact small_built h hl rfl (by show (0 : Int) ≤ 0; decide) (by show (0 : Int) ≤ 2; decide)
    · unfold carryM
      rw [if_neg (by omega), if_neg (by omega), if_pos k2]
      refine ⟨by rw [List.length_modify, List.length_modify]; exact h.1, ?_⟩
      exact few_link (few_ent (small_few h))
    · unfold carryM
      rw [if_neg (by omega), if_neg (by omega), if_neg (by omega), if_neg (by omega), if_pos k7]
      unfold coveredM
      refine ⟨by rw [List.length_modify, List.length_append]; simp; omega, ?_⟩
      exact few_same (fun n => ⟨rfl, rfl⟩) (few_app hmore.2 ⟨by show (0 : Int) ≤ 2; decide, by show (2 : Int) ≤ _; omega, by show ([] : List (ByteArray × Int)).length ≤ _; simp⟩)
    · unfold carryM
      rw [if_neg (by omega), if_neg (by omega), if_neg (by omega), if_neg (by omega), if_neg (by omega)]
      refine ⟨by rw [List.length_modify]; exact h.1, ?_⟩
      exact few_same (setNd_few c) hmore.2
  · exact hmore
theorem len_do {M : List Nd} {c : Chg} (h : 0 < M.length) : 0 < (doM M c).length := by
  unfold doM
  split
  · unfold carryM builtM coveredM
    repeat' split
    all_goals simp
    all_goals omega
  · exact h
end Go.Proofs.YtknfhphhcnbndaaGreatDoor.V

namespace Go.Proofs.YtknfhphhcnbndaaGreatDoor.V
open List renaming setIfInBounds_toArray → lt, set_cons_zero → l0, set_cons_succ → ls
open Go.RowKit

theorem foot_type {h : Fsh} {w : World} (H : Fs h w) {k : Nat} (hk : h.foot k) : ∃ cur T, w.heap[k]? = some (.cells cur T (0, 0)) ∧ (T = 137 ∨ T = 135 ∨ T = 177) := by
  rcases hk with rfl | hk | ⟨x, hx, hk⟩
  · exact ⟨_, _, H.head, .inl rfl⟩
  · obtain ⟨cur, hc⟩ := owns_type H.own hk
    exact ⟨cur, _, hc, .inr (.inl rfl)⟩
  · obtain ⟨cur, hc⟩ := owns_type (H.ents x hx) hk
    exact ⟨cur, _, hc, .inr (.inr rfl)⟩
/-- All blocks but those of a file system's kinds are as they were. -/
def Keeps (w w' : World) : Prop := ∀ (k : Nat) (cs : Array Value) (T : TypeId), w.heap[k]? = some (.cells cs T (0, 0)) → T ≠ 137 → T ≠ 135 → T ≠ 177 → w'.heap[k]? = some (.cells cs T (0, 0))
theorem Grew.keeps {h h' : Fsh} {w w' : World} (G : Grew h h' w w') (H : Fs h w) : Keeps w w' := fun k cs T hk h1 h2 h3 => (G.kept k (heap_lt hk) fun q => by
  obtain ⟨cur, T', hc, hT⟩ := foot_type H q
  rw [hk] at hc
  simp only [Option.some.injEq, Obj.cells.injEq, and_true] at hc
  obtain ⟨_, rfl⟩ := hc
  rcases hT with e | e | e
  · exact h1 e
  · exact h2 e
  · exact h3 e).trans hk
theorem Keeps.owns {w w' : World} (K : Keeps w w') {e : TypeId} {size n : Nat} {v : Value} {xs : List Value} (ho : w.ownsRow 0 e size v n xs) (h1 : e ≠ 137) (h2 : e ≠ 135) (h3 : e ≠ 177) : w'.ownsRow 0 e size v n xs :=
  owns_at ho fun k hk => by
    obtain ⟨cur, hc⟩ := owns_type ho hk
    rw [K k cur e hc h1 h2 h3, hc]
theorem Keeps.rs {w w' : World} (K : Keeps w w') {M : List Nd} {L : List It} {v : Rv} (H : Rs M L v w) : Rs M L v w' :=
  ⟨K.owns H.hn (by decide) (by decide) (by decide), K.owns H.hl (by decide) (by decide) (by decide), K.owns H.hc (by decide) (by decide) (by decide), K.owns H.hd (by decide) (by decide) (by decide), K.owns H.ha (by decide) (by decide) (by decide), K.owns H.hf (by decide) (by decide) (by decide)⟩

/-- One change of a file system made behind w0; all but its kinds of blocks is kept. -/
theorem has_do_keeps {w0 w : World} {p : Nat} {M : List Nd} {c : Chg} {k : Nat} (h : Has w0 p M w) (hS : Small M k) (hk : k ≤ 900000) (hn : 0 < M.length) (hc : -9223372036854775808 ≤ c.n ∧ c.n ≤ 9223372036854775807) :
    Calls Tryz.prog 35 #[.pointer (some ⟨p, 0, none⟩), chgV c] w fun e w' => e = .returned (.tuple #[.int .i64 (doR M c), .int .i64 (wrongM M c)]) ∧ Has w0 p (doM M c) w' ∧ Keeps w w' ∧ w.heap.size ≤ w'.heap.size := by
  obtain ⟨h, rfl, rfl, H, hb, hf⟩ := h
  have hml : h.M.length = h.X.length := List.length_map ..
  refine (do_any h c k w H hS hk (by omega) hc).mono ?_
  rintro e w' ⟨he, h', hp', hm', H', G'⟩
  exact ⟨he, ⟨h', hp', hm', H', hb.trans (G'.below hb.size hf), fun j hj => by rcases G'.new j hj with q | q; exact hf j q; exact Nat.le_trans hb.size q⟩, G'.keeps H, G'.size⟩

/-- The nodes behind the changes. -/
def runM : List Chg → List Nd → List Nd
  | [], M => M
  | c :: r, M => runM r (doM M c)
theorem runM_append : ∀ (a b : List Chg) (M : List Nd), runM (a ++ b) M = runM b (runM a M)
  | [], b, M => rfl
  | c :: r, b, M => by rw [List.cons_append, runM, runM, runM_append r b]
theorem runM_take {cs : List Chg} {k : Nat} {c : Chg} (hc : cs[k]? = some c) (M : List Nd) : runM (cs.take (k + 1)) M = doM (runM (cs.take k) M) c := by
  rw [List.take_add_one, hc, runM_append]
  rfl
theorem runM_small : ∀ (cs : List Chg) (M : List Nd) (k : Nat), Small M k → Small (runM cs M) (k + cs.length)
  | [], M, k, h => h
  | c :: r, M, k, h => by
    have := runM_small r (doM M c) (k + 1) (small_do h)
    rw [show k + 1 + r.length = k + (c :: r).length by rw [List.length_cons]; omega] at this
    exact this
theorem runM_dev : ∀ (cs : List Chg) (M : List Nd), DevInv M → DevInv (runM cs M)
  | [], M, h => h
  | c :: r, M, h => runM_dev r (doM M c) (devInv_do h)

/-- Both file systems, of the nodes M: the program's at the block p, made behind w0; the reference's the value v, of the entries L. -/
structure Twin (w0 : World) (p : Nat) (M : List Nd) (L : List It) (v : Rv) (w : World) : Prop where
  fs : Has w0 p M w
  rs : Rs M L v w
  rel : Rel M L
theorem Twin.keep {w0 w w' : World} {p : Nat} {M : List Nd} {L : List It} {v : Rv} (h : Twin w0 p M L v w) (hb : Below w.heap.size w w') : Twin w0 p M L v w' := ⟨h.fs.keep hb, h.rs.keep hb, h.rel⟩
theorem rel_new : Rel newM [] := by
  refine ⟨fun i x hx => ?_, fun x hx => ?_, fun e he => (by cases he), fun e he => (by cases he)⟩
  · match i, hx with
    | 0, hx => simp only [newM, List.getElem?_cons_zero, Option.some.injEq] at hx; subst hx; rfl
    | i + 1, hx => simp [newM] at hx
  · obtain rfl : x = addedNd (dirNd 493 0) 1 [] := by simpa [newM] using hx
    decide
theorem rs_new {w : World} {v : Rv} (h : ROwn w v 1 (addedNd (dirAt 1 493 0) 1 []).bare 0 [] 1 [.int .i64 (-1)] 1 [.bool false] 1 [.int .i64 0] 1 [.int .i64 0]) : Rs newM [] v w :=
  ⟨h.1, h.2.1, h.2.2.1, h.2.2.2.1, h.2.2.2.2.1, h.2.2.2.2.2⟩
end Go.Proofs.YtknfhphhcnbndaaGreatDoor.V

namespace Go.Proofs.YtknfhphhcnbndaaGreatDoor.V
open List renaming setIfInBounds_toArray → lt, set_cons_zero → l0, set_cons_succ → ls
open Go.RowKit Go.BigFrame

def MadeRel (cs : List Chg) (w : World) (p B5 : Nat) (v : Value) (wr : World) : Prop := ∃ (k : Nat) (L : List It) (r : Rv), k ≤ cs.length ∧ v = .int .i64 (k : Int) ∧ L.length ≤ k ∧ Hid (Twin w p (runM (cs.take k) newM) L r wr) ∧
  wr.heap[w.heap.size]? = some (.cells nilsR 31 (0, 0)) ∧ wr.heap[B5]? = some (.cells #[r.n, r.l, r.c, r.d, r.a, r.f] 31 (0, 0))

def MadeMid (w5 : World) (M : List Nd) (c : Chg) (L : List It) (B7 : Nat) (W : World) : Prop := ∃ (r : Rv) (L' : List It), W.heap[B7]? = some (.cells #[r.n, r.l, r.c, r.d, r.a, r.f] 31 (0, 0)) ∧ Rs (doM M c) L' r W ∧ Rel (doM M c) L' ∧ L'.length ≤ L.length + 1 ∧ Below w5.heap.size w5 W ∧ w5.heap.size ≤ B7
theorem rs_one {M : List Nd} {L : List It} {v : Rv} {w : World} (h : Rs M L v w) : (#[v.n, v.l, v.c, v.d, v.a, v.f] : Array Value).all (·.oneCell') = true := rv_one (rown_rs h)
theorem But.from {b B : Nat} {w0 w w' : World} (h : But b w w') (h0 : Below B w0 w) (hB : B ≤ b) (hw : B ≤ w.heap.size) : Below B w0 w' := h.below h0 hB hw

theorem runM_pos : ∀ (cs : List Chg) (M : List Nd), 0 < M.length → 0 < (runM cs M).length
  | [], M, h => h
  | c :: r, M, h => runM_pos r (doM M c) (len_do h)
theorem Has.but {w0 w w' : World} {p b : Nat} {M : List Nd} (h : Has w0 p M w) (g : But b w w') {cs : Array Value} (hb : w.heap[b]? = some (.cells cs 31 (0, 0))) (hB : w0.heap.size ≤ b) : Has w0 p M w' := by
  obtain ⟨h, h1, h2, H, hb1, hf⟩ := h
  refine ⟨h, h1, h2, H.at (fun k hk => g.block k (H.lt hk) ?_), g.below hb1 hB hb1.size, hf⟩
  rintro rfl
  obtain ⟨cur, T, hc, hT⟩ := foot_type H hk
  rw [hb] at hc
  simp only [Option.some.injEq, Obj.cells.injEq, and_true] at hc
  obtain ⟨_, rfl⟩ := hc
  revert hT
  decide
theorem results_made {tmps : Array Value} {w : World} {g : Nat} {p' : Value} {cs : Array Value} {T : TypeId} {fr : Nat × Nat} (h2 : tmps.getD 2 undef = p') (h3 : tmps.getD 3 undef = .pointer (some ⟨g, 0, none⟩)) (hg : w.heap[g]? = some (.cells cs T fr)) (hs : cs.size = 6) :
    (results Tryz.f15 tmps).run Tryz.prog w = .ok (.tuple #[p', .agg cs]) w := by
  have hp' : tmps[3]?.getD undef = .pointer (some ⟨g, 0, none⟩) := by simpa using h3
  have hp2 : tmps[2]?.getD undef = p' := by simpa using h2
  have hl := run_loadVar_row (P := Tryz.prog) w g T 31 cs fr _ hg Tryz.underlying31 rfl (by rw [sizeRef, hs])
  simp [results, hp', hp2, asAddr, hl]

theorem Has.from {w0 w1 w : World} {p : Nat} {M : List Nd} (h : Has w1 p M w) (hb : Below w0.heap.size w0 w1) : Has w0 p M w := by
  obtain ⟨h, h1, h2, H, hb1, hf⟩ := h
  exact ⟨h, h1, h2, H, below_two hb hb1, fun k hk => Nat.le_trans hb.size (hf k hk)⟩

set_option maxRecDepth 100000 in
set_option maxHeartbeats 8000000 in
theorem made_any (cs : List Chg) (a : Option Addr) (cap : Nat) (w : World) (H : IsChgs w a cs) (hl : cs.length ≤ 400) (hf : FewL cs) (hn : ∀ c ∈ cs, -9223372036854775808 ≤ c.n ∧ c.n ≤ 9223372036854775807) :
    Calls Tryz.prog 15 #[.slice a cs.length cap] w fun e w' => ∃ p r L, e = .returned (.tuple #[.pointer (some ⟨p, 0, none⟩), rvV r]) ∧ Twin w p (runM cs newM) L r w' ∧ L.length ≤ cs.length := by
  have HH := Lib.hid H
  have HF := Lib.hid hf
  have HN := Lib.hid hn
  clear H hf hn
  have q0 := heap_alloc_new w (.cells nilsR 31)
  have B0 := (Below.refl w.heap.size w).alloc (Nat.le_refl _) (.cells nilsR 31)
  have HQ0 := Lib.hid q0
  have HB0 := Lib.hid B0
  unfold nilsR at q0 B0
  go_enter Tryz.func15, Tryz.ntmps15
  go_upto_region 2 with (first
    | (go_at_call 34; refine (new_any _).mono ?_; rintro e w2 ⟨p, rfl, H2⟩; have HP2 := Lib.hid (H2.from HB0.out); have HQ2 := Lib.hid (box_keep2 HQ0.out H2.below); clear H2 q0 B0)
    | (go_at_call 40; refine (rnew_any _).mono ?_; rintro e w3 ⟨v3, rfl, ho3, hb3⟩; have HT3 := Lib.hid (show Twin w p newM [] v3 w3 from ⟨HP2.out.keep hb3, rs_new ho3, rel_new⟩); have HQ3 := Lib.hid (box_keep2 HQ2.out hb3); have HN3 := Lib.hid (rv_one ho3); clear ho3 hb3)
    | (refine wpList_store_row rfl 31 (.tmp 5) (.tmp 11) rfl w3.heap.size #[v3.n, v3.l, v3.c, v3.d, v3.a, v3.f] rfl rfl 31 nilsR (heap_alloc_new _ _) sizeRef rfl HN3.out ?_; rw [World.setRow_alloc_new]))
  have HB4 := Lib.hid (show Below w3.heap.size w3 (w3.alloc (.cells #[v3.n, v3.l, v3.c, v3.d, v3.a, v3.f] 31)) from (Below.refl _ _).alloc (Nat.le_refl _) _)
  have HQ4 := Lib.hid (heap_alloc_new w3 (.cells #[v3.n, v3.l, v3.c, v3.d, v3.a, v3.f] 31))
  have HBW := Lib.hid (show Below w.heap.size w (w3.alloc (.cells #[v3.n, v3.l, v3.c, v3.d, v3.a, v3.f] 31)) from (HT3.out.keep HB4.out).fs.below)
  generalize w3.alloc (.cells #[v3.n, v3.l, v3.c, v3.d, v3.a, v3.f] 31) = w4 at HB4 HQ4 HBW ⊢
  have HR0 := Lib.hid (show MadeRel cs w p w3.heap.size (.int .i64 0) w4 from ⟨0, [], v3, Nat.zero_le _, rfl, Nat.zero_le _, Lib.hid (HT3.out.keep HB4.out), box_keep2 HQ3.out HB4.out, HQ4.out⟩)
  have HLT := Lib.hid (heap_lt HQ3.out)
  generalize w3.heap.size = B5 at HR0 HQ4 HLT ⊢
  go_wp2_with fail
  go_loopw [6] (MadeRel cs w p B5) (fun v _ => cs.length - (intOf v).toNat)
  case atStart => exact HR0.out
  case round =>
    obtain ⟨k, L, r, hk, rfl, hL, HT, hq, hb⟩ := hrel
    have HQ := Lib.hid hq
    have HBX := Lib.hid hb
    clear hq hb
    by_cases hlt : k < cs.length
    · have d1 : decide ((k : Int) < (cs.length : Int)) = true := decide_eq_true (by omega)
      obtain ⟨c, hc⟩ : ∃ c, cs[k]? = some c := ⟨_, List.getElem?_eq_getElem hlt⟩
      obtain ⟨g, o, rfl, hr⟩ := (HH.out.keep HT.out.fs.below).at_ hc
      have HR := Lib.hid (show ∀ W, Below w.heap.size w W → W.rangeAt g (o + k * 8) (chgL c) from fun W hW => by
        obtain ⟨g', o', e, h⟩ := (HH.out.keep hW).at_ hc
        cases e
        exact h)
      have HRW := Lib.hid hr
      have HC := Lib.hid hc
      have HK := Lib.hid (runM_take hc newM)
      obtain ⟨n1, n2⟩ := HN.out c (List.mem_of_getElem? hc)
      obtain ⟨s1, s2⟩ := HF.out k c (by omega) hc
      have HSM := Lib.hid (show Small (runM (cs.take k) newM) k from by
        have := runM_small (cs.take k) newM 0 new_small
        rwa [List.length_take, Nat.min_eq_left hk, Nat.zero_add] at this)
      have HDV := Lib.hid (runM_dev (cs.take k) newM devInv_new)
      have HM0 := Lib.hid (runM_pos (cs.take k) newM (by decide))
      clear hr hc
      generalize runM (cs.take k) newM = M at HT HK HSM HDV HM0
      have HCV := Lib.hid (show chgV c = .agg (chgL c).toArray from rfl)
      have HD := Lib.hid (has_do_keeps (c := c) HT.out.fs HSM.out (by omega) HM0.out ⟨n1, n2⟩)
      go_upto_region 6 with (first
        | (refine wpList_load_mid rfl 89 (.tmp 21) rfl g (o + k * 8) rfl (chgL c) _ HRW.out Tryz.underlying89 rfl sizeChg ?_)
        | (go_at_call 35; rw [← HCV.out]; refine HD.out.mono ?_; rintro e w5 ⟨rfl, H5, K5, z5⟩; have HH5 := Lib.hid H5; have HK5 := Lib.hid K5; clear H5 K5))
      have HW5 := Lib.hid HH5.out.below
      have HB5 := Lib.hid (HK5.out B5 _ _ HBX.out (by decide) (by decide) (by decide))
      have HQ5 := Lib.hid (HK5.out _ _ _ HQ.out (by decide) (by decide) (by decide))
      have HS5 := Lib.hid (HK5.out.rs HT.out.rs)
      have HFc := Lib.hid (show ∀ W, Below w5.heap.size w5 W → W.cell? ⟨B5, 0, none⟩ = some r.n ∧ W.cell? ⟨B5, 1, none⟩ = some r.l ∧ W.cell? ⟨B5, 2, none⟩ = some r.c ∧ W.cell? ⟨B5, 3, none⟩ = some r.d ∧ W.cell? ⟨B5, 4, none⟩ = some r.a ∧ W.cell? ⟨B5, 5, none⟩ = some r.f from fun W hW => by
        have q := box_keep2 HB5.out hW
        refine ⟨?_, ?_, ?_, ?_, ?_, ?_⟩ <;> (rw [cell_of_row _ _ _ _ _ _ q]; rfl))
      have HCc := Lib.hid (show ∀ W, Below w5.heap.size w5 W → W.cell? ⟨g, o + k * 8, none⟩ = some (.int .i64 c.kind) ∧ W.cell? ⟨g, o + k * 8 + 1, none⟩ = some (.int .i64 c.at_) ∧ W.cell? ⟨g, o + k * 8 + 2, none⟩ = some (.int .i64 c.to) ∧ W.cell? ⟨g, o + k * 8 + 3, none⟩ = some (.string c.name) ∧ W.cell? ⟨g, o + k * 8 + 4, none⟩ = some (.string c.text) ∧ W.cell? ⟨g, o + k * 8 + 5, none⟩ = some (.int .i64 c.a) ∧ W.cell? ⟨g, o + k * 8 + 6, none⟩ = some (.int .i64 c.b) ∧ W.cell? ⟨g, o + k * 8 + 7, none⟩ = some (.int .i64 c.n) from fun W hW => by
        have q := HR.out W (below_two HW5.out hW)
        exact ⟨q 0 _ rfl, q 1 _ rfl, q 2 _ rfl, q 3 _ rfl, q 4 _ rfl, q 5 _ rfl, q 6 _ rfl, q 7 _ rfl⟩)
      have HRD := Lib.hid (show ∀ W, Below w5.heap.size w5 W → Calls Tryz.prog 41 #[.agg #[r.n, r.l, r.c, r.d, r.a, r.f], chgV c] W (RDoP M L c W) from fun W hW => rdo_any M L r c W (HS5.out.keep hW) HT.out.rel HDV.out (by have := HSM.out.1; omega) (by omega) HM0.out (by omega) (by omega) n2)
      go_cut [7, 8, 9] from 24 to 34 (fun a7 a8 a9 wx => ∃ B7, a7 = .pointer (some ⟨B7, 0, none⟩) ∧ MadeMid w5 M c L B7 wx)
      case first =>
        refine Till.region (z := 13) (S := fun w' => Below w5.heap.size w5 w') (by kernel_rfl) ((Below.refl _ _).drew) (fun hHeld => ?_)
        refine Till.take (i := 0) (oi := ⟨some 25, .load 31 (.tmp 5), 31, "law.go:25", #[], none⟩) (v := .agg #[r.n, r.l, r.c, r.d, r.a, r.f]) rfl (by kernel_rfl) (by kernel_rfl) (by kernel_rfl) (by kernel_rfl) (fun _ _ _ h => h) (Or.inl ⟨by rfl, fun w0 hS0 => ?_⟩) (by assumption) ?_
        · obtain ⟨c0, c1, c2, c3, c4, c5⟩ := HFc.out _ hS0; go_simp
        try simp only [Act.put, lt, l0, ls]
        refine Till.take (i := 1) (oi := ⟨some 26, .move (.tmp 0), 22, "law.go:25", #[], none⟩) (v := .slice (some ⟨g, o, none⟩) cs.length cap) rfl (by kernel_rfl) (by kernel_rfl) (by kernel_rfl) (by kernel_rfl) (fun _ _ _ h => h) (Or.inl ⟨by rfl, fun w0 hS0 => ?_⟩) (by assumption) ?_
        · go_simp
        try simp only [Act.put, lt, l0, ls]
        refine Till.take (i := 2) (oi := ⟨some 27, .move (.tmp 6), 3, "law.go:25", #[], none⟩) (v := .int .i64 (k : Int)) rfl (by kernel_rfl) (by kernel_rfl) (by kernel_rfl) (by kernel_rfl) (fun _ _ _ h => h) (Or.inl ⟨by rfl, fun w0 hS0 => ?_⟩) (by assumption) ?_
        · go_simp
        try simp only [Act.put, lt, l0, ls]
        refine Till.take (i := 3) (oi := ⟨some 28, .indexAddr 22 (.tmp 26) (.tmp 27), 0, "law.go:25", #[⟨1, .data⟩, ⟨2, .data⟩], none⟩) (v := .pointer (some ⟨g, o + k * 8, none⟩)) rfl (by kernel_rfl) (by kernel_rfl) (by kernel_rfl) (by kernel_rfl) (fun _ _ _ h => h) (Or.inl ⟨by rfl, fun w0 hS0 => ?_⟩) (by assumption) ?_
        · go_simp
        try simp only [Act.put, lt, l0, ls]
        refine Till.take (i := 4) (oi := ⟨some 29, .load 89 (.tmp 28), 89, "law.go:25", #[⟨3, .data⟩], none⟩) (v := chgV c) rfl (by kernel_rfl) (by kernel_rfl) (by kernel_rfl) (by kernel_rfl) (fun _ _ _ h => h) (Or.inl ⟨by rfl, fun w0 hS0 => ?_⟩) (by assumption) ?_
        · obtain ⟨c0, c1, c2, c3, c4, c5, c6, c7⟩ := HCc.out _ hS0; unfold chgV; go_simp
        try simp only [Act.put, lt, l0, ls]
        refine Till.two (i := 5) (j := 10) (o := ⟨some 30, .call ⟨.value (.func 41), #[.tmp 25, .tmp 29], #[31, 89]⟩, 97, "law.go:25", #[⟨0, .data⟩, ⟨4, .data⟩], none⟩) (o' := ⟨some 7, .alloc 31, 0, "law.go:25", #[], none⟩) (by kernel_rfl) rfl rfl (fun K hK => ?_) (fun K hK => ?_)
        · go_simp
          refine (HRD.out _ (hHeld)).mono ?_
          rintro e w6 ⟨r', L', rfl, R6, E6, l6, b6⟩
          have HR6 := Lib.hid R6
          have HN6 := Lib.hid (rs_one R6)
          have HE6 := Lib.hid E6
          have HB6 := Lib.hid (below_two (hHeld) b6)
          clear R6 E6 b6
          go_wp2_with fail
          refine hK.out _ _ (fun _ => HB6.out) ?_
          clear hK K
          have hHeld6 := HB6.out
          try simp only [Act.put, lt, l0, ls]
          refine Till.take (i := 6) (oi := ⟨some 24, .move (.tmp 30), 97, "law.go:25", #[⟨5, .data⟩], none⟩) (v := .tuple #[rvV r', .int .i64 (doR M c), .int .i64 (wrongM M c)]) rfl (by kernel_rfl) (by kernel_rfl) (by kernel_rfl) (by kernel_rfl) (fun _ _ _ h => h) (Or.inl ⟨by rfl, fun w0 hS0 => ?_⟩) (by assumption) ?_
          · go_simp
          try simp only [Act.put, lt, l0, ls]
          refine Till.take (i := 7) (oi := ⟨some 31, .extract (.tmp 24) 0, 31, "law.go:25", #[⟨6, .data⟩], none⟩) (v := rvV r') rfl (by kernel_rfl) (by kernel_rfl) (by kernel_rfl) (by kernel_rfl) (fun _ _ _ h => h) (Or.inl ⟨by rfl, fun w0 hS0 => ?_⟩) (by assumption) ?_
          · go_simp
          try simp only [Act.put, lt, l0, ls]
          refine Till.take (i := 8) (oi := ⟨some 32, .extract (.tmp 24) 1, 3, "law.go:25", #[⟨6, .data⟩, ⟨11, .gcOnly .lateStores⟩], none⟩) (v := .int .i64 (doR M c)) rfl (by kernel_rfl) (by kernel_rfl) (by kernel_rfl) (by kernel_rfl) (fun _ _ _ h => h) (Or.inl ⟨by rfl, fun w0 hS0 => ?_⟩) (by assumption) ?_
          · go_simp
          try simp only [Act.put, lt, l0, ls]
          refine Till.take (i := 9) (oi := ⟨some 33, .extract (.tmp 24) 2, 55, "law.go:25", #[⟨6, .data⟩, ⟨12, .gcOnly .lateStores⟩], none⟩) (v := .int .i64 (wrongM M c)) rfl (by kernel_rfl) (by kernel_rfl) (by kernel_rfl) (by kernel_rfl) (fun _ _ _ h => h) (Or.inl ⟨by rfl, fun w0 hS0 => ?_⟩) (by assumption) ?_
          · go_simp
          try simp only [Act.put, lt, l0, ls]
          refine Till.next (i := 10) (o := ⟨some 7, .alloc 31, 0, "law.go:25", #[], none⟩) (by kernel_rfl) rfl (fun K hK => ?_)
          go_simp
          refine hK.out _ _ (fun _ => HB6.out.alloc HB6.out.size _) ?_
          clear hK K
          have hHeld7 := HB6.out.alloc HB6.out.size (.cells nilsR 31)
          have HBt := Lib.hid (but_setRow (heap_alloc_new w6 (.cells nilsR 31)) #[r'.n, r'.l, r'.c, r'.d, r'.a, r'.f])
          try simp only [Act.put, lt, l0, ls]
          refine Till.next (i := 11) (o := ⟨none, .store 31 (.tmp 7) (.tmp 31), 0, "law.go:25", #[⟨10, .data⟩, ⟨7, .data⟩, ⟨5, .chain⟩, ⟨0, .phase⟩, ⟨1, .phase⟩, ⟨2, .phase⟩, ⟨3, .phase⟩, ⟨4, .phase⟩, ⟨5, .phase⟩, ⟨6, .phase⟩, ⟨7, .phase⟩, ⟨8, .textOnly .lateStores⟩, ⟨9, .textOnly .lateStores⟩, ⟨10, .phase⟩], none⟩) (by kernel_rfl) rfl (fun K hK => ?_)
          refine step_store_row rfl 31 (.tmp 7) (.tmp 31) rfl (w6.heap.size) #[r'.n, r'.l, r'.c, r'.d, r'.a, r'.f] rfl rfl 31 nilsR (heap_alloc_new _ _) sizeRef rfl HN6.out ?_
          refine hK.out _ _ (fun _ => HBt.out.from hHeld7 HB6.out.size hHeld7.size) ?_
          clear hK K
          try simp only [Act.put, lt, l0, ls]
          refine Till.next (i := 12) (o := ⟨some 8, .assign (.tmp 32), 3, "law.go:25", #[⟨8, .data⟩, ⟨11, .chain⟩, ⟨0, .phase⟩, ⟨1, .phase⟩, ⟨2, .phase⟩, ⟨3, .phase⟩, ⟨4, .phase⟩, ⟨5, .phase⟩, ⟨6, .phase⟩, ⟨7, .phase⟩, ⟨8, .phase⟩, ⟨9, .textOnly .lateStores⟩, ⟨10, .phase⟩, ⟨11, .phase⟩], none⟩) (by kernel_rfl) rfl (fun K hK => ?_)
          go_simp
          refine hK.out _ _ (fun _ => HBt.out.from hHeld7 HB6.out.size hHeld7.size) ?_
          clear hK K
          try simp only [Act.put, lt, l0, ls]
          refine Till.next (i := 13) (o := ⟨some 9, .assign (.tmp 33), 55, "law.go:25", #[⟨9, .data⟩, ⟨12, .chain⟩, ⟨0, .phase⟩, ⟨1, .phase⟩, ⟨2, .phase⟩, ⟨3, .phase⟩, ⟨4, .phase⟩, ⟨5, .phase⟩, ⟨6, .phase⟩, ⟨7, .phase⟩, ⟨8, .phase⟩, ⟨9, .phase⟩, ⟨10, .phase⟩, ⟨11, .phase⟩, ⟨12, .phase⟩], none⟩) (by kernel_rfl) rfl (fun K hK => ?_)
          go_simp
          refine hK.out _ _ (fun q => absurd rfl q) ?_
          clear hK K
          try simp only [Act.put, lt, l0, ls]
          refine Till.done (by kernel_rfl) ?_
          go_wp2_with fail
          go_meet
          exact ⟨_, rfl, r', L', setRow_heap _ _ _ _ _ _ (heap_alloc_new _ _), HBt.out.rs (heap_alloc_new _ _) (HR6.out.keep ((Below.refl _ _).alloc (Nat.le_refl _) _)), HE6.out, l6, HBt.out.from hHeld7 HB6.out.size hHeld7.size, HB6.out.size⟩
        · go_simp
          refine hK.out _ _ (fun _ => hHeld.alloc hHeld.size _) ?_
          clear hK K
          have hHeld7 := hHeld.alloc hHeld.size (.cells nilsR 31)
          have HQ7 := Lib.hid (heap_alloc_new w5.drew (.cells nilsR 31))
          try simp only [Act.put, lt, l0, ls]
          refine Till.next (i := 5) (o := ⟨some 30, .call ⟨.value (.func 41), #[.tmp 25, .tmp 29], #[31, 89]⟩, 97, "law.go:25", #[⟨0, .data⟩, ⟨4, .data⟩], none⟩) (by kernel_rfl) rfl (fun K hK => ?_)
          go_simp
          refine (HRD.out _ (hHeld7)).mono ?_
          rintro e w6 ⟨r', L', rfl, R6, E6, l6, b6⟩
          have HR6 := Lib.hid R6
          have HN6 := Lib.hid (rs_one R6)
          have HE6 := Lib.hid E6
          have HB6 := Lib.hid (below_two (hHeld7) b6)
          have HQ8 := Lib.hid (box_keep2 HQ7.out b6)
          have HBt := Lib.hid (but_setRow HQ8.out #[r'.n, r'.l, r'.c, r'.d, r'.a, r'.f])
          clear R6 E6 b6
          go_wp2_with fail
          refine hK.out _ _ (fun _ => HB6.out) ?_
          clear hK K
          have hHeld6 := HB6.out
          try simp only [Act.put, lt, l0, ls]
          refine Till.take (i := 6) (oi := ⟨some 24, .move (.tmp 30), 97, "law.go:25", #[⟨5, .data⟩], none⟩) (v := .tuple #[rvV r', .int .i64 (doR M c), .int .i64 (wrongM M c)]) rfl (by kernel_rfl) (by kernel_rfl) (by kernel_rfl) (by kernel_rfl) (fun _ _ _ h => h) (Or.inl ⟨by rfl, fun w0 hS0 => ?_⟩) (by assumption) ?_
          · go_simp
          try simp only [Act.put, lt, l0, ls]
          refine Till.take (i := 7) (oi := ⟨some 31, .extract (.tmp 24) 0, 31, "law.go:25", #[⟨6, .data⟩], none⟩) (v := rvV r') rfl (by kernel_rfl) (by kernel_rfl) (by kernel_rfl) (by kernel_rfl) (fun _ _ _ h => h) (Or.inl ⟨by rfl, fun w0 hS0 => ?_⟩) (by assumption) ?_
          · go_simp
          try simp only [Act.put, lt, l0, ls]
          refine Till.take (i := 8) (oi := ⟨some 32, .extract (.tmp 24) 1, 3, "law.go:25", #[⟨6, .data⟩, ⟨11, .gcOnly .lateStores⟩], none⟩) (v := .int .i64 (doR M c)) rfl (by kernel_rfl) (by kernel_rfl) (by kernel_rfl) (by kernel_rfl) (fun _ _ _ h => h) (Or.inl ⟨by rfl, fun w0 hS0 => ?_⟩) (by assumption) ?_
          · go_simp
          try simp only [Act.put, lt, l0, ls]
          refine Till.take (i := 9) (oi := ⟨some 33, .extract (.tmp 24) 2, 55, "law.go:25", #[⟨6, .data⟩, ⟨12, .gcOnly .lateStores⟩], none⟩) (v := .int .i64 (wrongM M c)) rfl (by kernel_rfl) (by kernel_rfl) (by kernel_rfl) (by kernel_rfl) (fun _ _ _ h => h) (Or.inl ⟨by rfl, fun w0 hS0 => ?_⟩) (by assumption) ?_
          · go_simp
          try simp only [Act.put, lt, l0, ls]
          refine Till.next (i := 11) (o := ⟨none, .store 31 (.tmp 7) (.tmp 31), 0, "law.go:25", #[⟨10, .data⟩, ⟨7, .data⟩, ⟨5, .chain⟩, ⟨0, .phase⟩, ⟨1, .phase⟩, ⟨2, .phase⟩, ⟨3, .phase⟩, ⟨4, .phase⟩, ⟨5, .phase⟩, ⟨6, .phase⟩, ⟨7, .phase⟩, ⟨8, .textOnly .lateStores⟩, ⟨9, .textOnly .lateStores⟩, ⟨10, .phase⟩], none⟩) (by kernel_rfl) rfl (fun K hK => ?_)
          refine step_store_row rfl 31 (.tmp 7) (.tmp 31) rfl (w5.drew.heap.size) #[r'.n, r'.l, r'.c, r'.d, r'.a, r'.f] rfl rfl 31 nilsR (HQ8.out) sizeRef rfl HN6.out ?_
          refine hK.out _ _ (fun _ => HBt.out.from hHeld6 hHeld.size hHeld6.size) ?_
          clear hK K
          try simp only [Act.put, lt, l0, ls]
          refine Till.next (i := 12) (o := ⟨some 8, .assign (.tmp 32), 3, "law.go:25", #[⟨8, .data⟩, ⟨11, .chain⟩, ⟨0, .phase⟩, ⟨1, .phase⟩, ⟨2, .phase⟩, ⟨3, .phase⟩, ⟨4, .phase⟩, ⟨5, .phase⟩, ⟨6, .phase⟩, ⟨7, .phase⟩, ⟨8, .phase⟩, ⟨9, .textOnly .lateStores⟩, ⟨10, .phase⟩, ⟨11, .phase⟩], none⟩) (by kernel_rfl) rfl (fun K hK => ?_)
          go_simp
          refine hK.out _ _ (fun _ => HBt.out.from hHeld6 hHeld.size hHeld6.size) ?_
          clear hK K
          try simp only [Act.put, lt, l0, ls]
          refine Till.next (i := 13) (o := ⟨some 9, .assign (.tmp 33), 55, "law.go:25", #[⟨9, .data⟩, ⟨12, .chain⟩, ⟨0, .phase⟩, ⟨1, .phase⟩, ⟨2, .phase⟩, ⟨3, .phase⟩, ⟨4, .phase⟩, ⟨5, .phase⟩, ⟨6, .phase⟩, ⟨7, .phase⟩, ⟨8, .phase⟩, ⟨9, .phase⟩, ⟨10, .phase⟩, ⟨11, .phase⟩, ⟨12, .phase⟩], none⟩) (by kernel_rfl) rfl (fun K hK => ?_)
          go_simp
          refine hK.out _ _ (fun q => absurd rfl q) ?_
          clear hK K
          try simp only [Act.put, lt, l0, ls]
          refine Till.done (by kernel_rfl) ?_
          go_wp2_with fail
          go_meet
          exact ⟨_, rfl, r', L', setRow_heap _ _ _ _ _ _ HQ8.out, HBt.out.rs HQ8.out HR6.out, HE6.out, l6, HBt.out.from hHeld6 hHeld.size hHeld6.size, hHeld.size⟩
      case rest =>
        obtain ⟨B7, rfl, r', L', hb7, R7, E7, l7, bel7, ge7⟩ := hcut
        have HN7 := Lib.hid (rs_one R7)
        have HR7 := Lib.hid R7
        have HE7 := Lib.hid E7
        have HL7 := Lib.hid hb7
        have HBL := Lib.hid bel7
        have hb5 := box_keep2 HB5.out bel7
        have HX5 := Lib.hid hb5
        have HQ7 := Lib.hid (box_keep2 HQ5.out bel7)
        have HBt := Lib.hid (but_setRow hb5 #[r'.n, r'.l, r'.c, r'.d, r'.a, r'.f])
        clear R7 E7 hb7 bel7 hb5
        go_wp2_with (first
          | (refine wpList_load_row rfl 31 (.tmp 7) rfl B7 rfl _ _ _ _ HL7.out Tryz.underlying31 rfl (by rw [sizeRef]; rfl) ?_)
          | (refine wpList_store_row rfl 31 (.tmp 5) (.tmp 34) rfl B5 #[r'.n, r'.l, r'.c, r'.d, r'.a, r'.f] rfl rfl 31 _ HX5.out sizeRef rfl HN7.out ?_))
        go_roundw
        case rel =>
          refine ⟨k + 1, L', r', by omega, by simp, by omega, Lib.hid ⟨?_, ?_, ?_⟩, ?_, setRow_heap _ _ _ _ _ _ HX5.out⟩
          · rw [HK.out]; exact (HH5.out.keep HBL.out).but HBt.out HX5.out (by have := HLT.out; omega)
          · rw [HK.out]; exact HBt.out.rs HX5.out HR7.out
          · rw [HK.out]; exact HE7.out
          · exact (HBt.out.block _ (heap_lt HQ7.out) (by have := HLT.out; omega)).trans HQ7.out
        case measure => simp [intOf]; omega
    · have d1 : decide ((k : Int) < (cs.length : Int)) = false := decide_eq_false (by omega)
      obtain rfl : k = cs.length := by omega
      have HTK := Lib.hid (show Twin w p (runM cs newM) L r wr from by have := HT.out; rwa [List.take_length] at this)
      have HF8 := Lib.hid (show ∀ W, Below wr.heap.size wr W → W.cell? ⟨B5, 0, none⟩ = some r.n ∧ W.cell? ⟨B5, 1, none⟩ = some r.l ∧ W.cell? ⟨B5, 2, none⟩ = some r.c ∧ W.cell? ⟨B5, 3, none⟩ = some r.d ∧ W.cell? ⟨B5, 4, none⟩ = some r.a ∧ W.cell? ⟨B5, 5, none⟩ = some r.f from fun W hW => by
        have q := box_keep2 HBX.out hW
        refine ⟨?_, ?_, ?_, ?_, ?_, ?_⟩ <;> (rw [cell_of_row _ _ _ _ _ _ q]; rfl))
      have HN8 := Lib.hid (rs_one HT.out.rs)
      go_upto_region 8 with fail
      refine Till.region (z := 3) (S := fun w' => Below wr.heap.size wr w') (by kernel_rfl) ((Below.refl _ _).drew) (fun hHeld => ?_)
      have HB8 := Lib.hid hHeld
      have HQ8 := Lib.hid (box_keep2 HQ.out hHeld)
      have HBt := Lib.hid (but_setRow HQ8.out #[r.n, r.l, r.c, r.d, r.a, r.f])
      refine Till.take (i := 0) (oi := ⟨some 35, .move (.tmp 4), 25, "law.go:28", #[], none⟩) (v := .pointer (some ⟨p, 0, none⟩)) rfl (by kernel_rfl) (by kernel_rfl) (by kernel_rfl) (by kernel_rfl) (fun _ _ _ h => h) (Or.inl ⟨by rfl, fun w0 hS0 => ?_⟩) (by assumption) ?_
      · go_simp
      try simp only [Act.put, lt, l0, ls]
      refine Till.take (i := 1) (oi := ⟨some 36, .load 31 (.tmp 5), 31, "law.go:28", #[⟨2, .gcOnly .lateStores⟩], none⟩) (v := .agg #[r.n, r.l, r.c, r.d, r.a, r.f]) rfl (by kernel_rfl) (by kernel_rfl) (by kernel_rfl) (by kernel_rfl) (fun _ _ _ h => h) (Or.inl ⟨by rfl, fun w0 hS0 => ?_⟩) (by assumption) ?_
      · obtain ⟨c0, c1, c2, c3, c4, c5⟩ := HF8.out _ hS0; go_simp
      try simp only [Act.put, lt, l0, ls]
      refine Till.next (i := 2) (o := ⟨some 2, .assign (.tmp 35), 25, "law.go:28", #[⟨0, .data⟩, ⟨0, .phase⟩, ⟨1, .textOnly .lateStores⟩], none⟩) (by kernel_rfl) rfl (fun K hK => ?_)
      go_simp
      refine hK.out _ _ (fun _ => HB8.out) ?_
      clear hK K
      try simp only [Act.put, lt, l0, ls]
      refine Till.next (i := 3) (o := ⟨none, .store 31 (.tmp 3) (.tmp 36), 0, "law.go:28", #[⟨1, .data⟩, ⟨2, .chain⟩, ⟨0, .phase⟩, ⟨1, .phase⟩, ⟨2, .phase⟩], none⟩) (by kernel_rfl) rfl (fun K hK => ?_)
      refine step_store_row rfl 31 (.tmp 3) (.tmp 36) rfl w.heap.size #[r.n, r.l, r.c, r.d, r.a, r.f] rfl rfl 31 nilsR HQ8.out sizeRef rfl HN8.out ?_
      refine hK.out _ _ (fun q => absurd rfl q) ?_
      clear hK K
      try simp only [Act.put, lt, l0, ls]
      refine Till.done (by kernel_rfl) ?_
      go_wp2_with fail
      refine bodyPost_ret (v := .tuple #[.pointer (some ⟨p, 0, none⟩), .agg #[r.n, r.l, r.c, r.d, r.a, r.f]]) ?_ rfl ⟨p, r, L, rfl, ?_, hL⟩
      · exact results_made rfl rfl (setRow_heap _ _ _ _ _ _ HQ8.out) rfl
      · exact ⟨(HTK.out.fs.keep HB8.out).but HBt.out HQ8.out (Nat.le_refl _), HBt.out.rs HQ8.out (HTK.out.rs.keep HB8.out), HTK.out.rel⟩
end Go.Proofs.YtknfhphhcnbndaaGreatDoor.V
