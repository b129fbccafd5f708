/-
  What the reference's Rows returns: a row for each device. Conditions: the reference's file system lies in memory.
-/
import Derived.Test.YtknfhphhcnbndaaGreatDoorFJRows
import Derived.Test.YtknfhphhcnbndaaGreatDoorFJRefDir
import Derived.Test.YtknfhphhcnbndaaGreatDoorFJMem
import Derived.Deep.CutRange
set_option linter.unusedVariables false
set_option linter.unusedSimpArgs false
namespace Go.Proofs.YtknfhphhcnbndaaGreatDoor.J
open List renaming setIfInBounds_toArray → lt, set_cons_zero → l0, set_cons_succ → ls
open Go.Proofs.YtknfhphhcnbndaaGreatDoor.B
open Go.RowKit

theorem infoI64 : (Tryz.prog.info? 2).map (fun i => (i.zero, i.size, i.bytes)) = some (some (.int .i64 0), 1, 8) := by kernel_rfl
theorem refAdd_own {w : World} {b : Nat} {a : Option Addr} {c : Nat} (l : List Int) (h : w.ownsRow b 2 1 (.slice a l.length c) l.length (V.ints l)) (hl : l.length ≤ 1000000) (hb : ∀ x ∈ l, 0 ≤ x ∧ x ≤ 9223372036854775807) :
    Calls Tryz.prog 45 #[.slice a l.length c] w fun e w' => e = .returned (.int .i64 (N.addAll l)) ∧ w = w' := by
  by_cases h0 : l = []
  · subst h0
    exact N.refAdd_none c a w
  · obtain ⟨g, c', e, _, _⟩ := V.owns_some h (List.length_pos_iff.2 h0)
    simp only [Value.slice.injEq] at e
    obtain ⟨rfl, _, rfl⟩ := e
    have q := N.refAdd_some g 0 l.length c l w (Nat.le_refl _) (by omega) (fun i hi => by
      rw [Nat.zero_add]
      refine V.owns_cell h (V.ints_at ?_)
      rw [List.getD_eq_getElem?_getD, List.getElem?_eq_getElem hi]
      rfl) (fun i => by
      by_cases hi : i < l.length
      · rw [List.getD_eq_getElem?_getD, List.getElem?_eq_getElem hi]
        have := hb _ (List.getElem_mem hi)
        exact ⟨by simp only [Option.getD_some]; omega, this.2⟩
      · rw [List.getD_eq_getElem?_getD, List.getElem?_eq_none (by omega)]
        exact ⟨by decide, by decide⟩)
    rw [List.take_length] at q
    exact q
theorem frozen_row {w : World} {b : Nat} {cs : Array Value} {T : TypeId} (h : w.heap[b]? = some (.cells cs T (0, 0))) (j : Nat) : w.frozen? ⟨b, j, none⟩ = false := by
  unfold World.frozen?
  simp [h]
theorem refAdd2_any (x y : Int) (g : Nat) (w : World) (h0 : w.cell? ⟨g, 0, none⟩ = some (.int .i64 x)) (h1 : w.cell? ⟨g, 1, none⟩ = some (.int .i64 y)) (hx : -9223372036854775808 ≤ x ∧ x ≤ 9223372036854775807) (hy : -9223372036854775808 ≤ y ∧ y ≤ 9223372036854775807) :
    Calls Tryz.prog 45 #[.slice (some ⟨g, 0, none⟩) 2 2] w fun e w' => e = .returned (.int .i64 (N.cutZ (x + y))) ∧ w = w' := by
  have h := N.refAdd_some g 0 2 2 [x, y] w (by simp) (by simp) (fun i hi => by
    have : i = 0 ∨ i = 1 := by simp at hi; omega
    rcases this with rfl | rfl
    · exact h0
    · exact h1) (fun i => by
    match i with
    | 0 => exact hx
    | 1 => exact hy
    | n + 2 => rw [show [x, y].getD (n + 2) 0 = 0 from rfl]; omega)
  refine h.mono ?_
  rintro e w' ⟨rfl, rfl⟩
  refine ⟨?_, rfl⟩
  rw [show [x, y].take 2 = [x, y] from rfl, add_two x y hx.1 hx.2]
def BRel (M : List V.Nd) (d : Int) (w2 : World) (v7 v8 : Value) (wr : World) : Prop := ∃ k : Nat, k ≤ M.length ∧ v8 = .int .i64 (k : Int) ∧ Hid (wr.ownsRow w2.heap.size 2 1 v7 (blksJ (M.take k) d).length (V.ints (blksJ (M.take k) d))) ∧ Hid (Below w2.heap.size w2 wr)
def QRel (M : List V.Nd) (all : Int) (L : List Int) (w1 : World) (v5 v6 : Value) (wr : World) : Prop := ∃ k : Nat, k ≤ L.length ∧ v6 = .int .i64 (k : Int) ∧ Hid (wr.ownsRow w1.heap.size 38 6 v5 k (cellsC rwC (rowsL M all (L.take k) 0))) ∧ Hid (Below w1.heap.size w1 wr)
theorem ints_snoc (l : List Int) (x : Int) : V.ints (l ++ [x]) = V.ints l ++ [.int .i64 x] := by
  unfold V.ints
  rw [List.map_append]
  rfl
set_option maxRecDepth 100000 in
set_option maxHeartbeats 16000000 in
theorem refRows_any {M : List V.Nd} {L : List V.It} (r : V.Rv) (all : Int) (w : World) (H : V.Rs M L r w) (R : V.Rel M L) (hL : L.length ≤ 1000000) (hG : GoodJ M) (hR : V.RI M) (hD : V.DU M) (hK : KI M) (ha : I64 all) :
    Calls Tryz.prog 17 #[V.rvV r, .int .i64 all] w fun e w' => ∃ v, e = .returned v ∧ w'.ownsRow w.heap.size 38 6 v (allRows M all).length (cellsC rwC (allRows M all)) ∧ Below w.heap.size w w' := by
  obtain ⟨i0, hi0, hz0, hz1, hz2⟩ := info_parts infoI64
  obtain ⟨j0, hj0, hy0, hy1, hy2⟩ := info_parts infoRw
  have hML := hG.few
  obtain ⟨gn, cn, al, cl, gc, cc, gd, cd, ga, ca, af, cf, rfl⟩ := H.at6 hG.pos
  obtain ⟨Am, hAm⟩ : ∃ Am, max all 0 = Am := ⟨_, rfl⟩
  have hab : 0 ≤ Am ∧ Am ≤ 9223372036854775807 := by have := ha.2; omega
  have HAl := Lib.hid (show allRows M all = rowsL M Am (V.devL M 0) 0 from by unfold allRows; rw [hAm])
  have hDl : (V.devL M 0).length ≤ 1000000 := by have := V.devL_len M 0; omega
  have HNc := Lib.hid (fun (X : World) (hb : Below w.heap.size w X) (k : Nat) (n : V.Nd) (hn : M[k]? = some n) => (show X.cell? ⟨gn, k * 13, none⟩ = some (.int .i64 n.dev) ∧ X.cell? ⟨gn, k * 13 + 7, none⟩ = some (.int .i64 n.blocks) from ⟨(H.keep hb).node_cell hn (k := 0) (by decide) rfl, (H.keep hb).node_cell hn (k := 7) (by decide) rfl⟩))
  have HFc := Lib.hid (fun (X : World) (hb : Below w.heap.size w X) => (H.keep hb).hf)
  have HDr := Lib.hid (show ∀ (i : Nat) (f : Int), (V.devL M 0)[i]? = some f → ∀ X : World, Below w.heap.size w X → Calls Tryz.prog 46 #[.agg #[.slice (some ⟨gn, 0, none⟩) M.length cn, .slice al L.length cl, .slice (some ⟨gc, 0, none⟩) M.length cc, .slice (some ⟨gd, 0, none⟩) M.length cd, .slice (some ⟨ga, 0, none⟩) M.length ca, .slice af (V.devL M 0).length cf], .int .i64 f, .int .i64 400] X fun e w' => ∃ s er, e = .returned (.tuple #[.string s, .int .i64 er]) ∧ DirQ M f s er ∧ Below X.heap.size X w' from fun i f h X hb => by
    obtain ⟨k, n, rfl, hn, hd, ho, hk⟩ := dev_cover hG hR hK h
    have hkl := (List.getElem?_eq_some_iff.1 hn).1
    exact refDir_any _ _ _ _ _ _ hR hD hG.pos hG.few R hL 400 _ X (H.keep hb) ho hk (by omega) (by decide))
  have HOk := Lib.hid hG.ok
  clear H R hL hR hD hK ha
  generalize V.devL M 0 = D at HAl hDl HFc HDr
  have hAll : (allRows M all).length = D.length := by rw [HAl.out, rowsL_len]
  rw [hAll]
  clear hAll
  unfold V.rvV
  go_enter Tryz.func17, Tryz.ntmps17
  go_upto_region 1 with fail
  obtain ⟨B0, hB0⟩ : ∃ B0, w.heap.size = B0 := ⟨_, rfl⟩
  obtain ⟨w1, hw1⟩ : ∃ w1, w.alloc (.cells #[.slice (some ⟨gn, 0, none⟩) M.length cn, .slice al L.length cl, .slice (some ⟨gc, 0, none⟩) M.length cc, .slice (some ⟨gd, 0, none⟩) M.length cd, .slice (some ⟨ga, 0, none⟩) M.length ca, .slice af D.length cf] 31) = w1 := ⟨_, rfl⟩
  have HB1 := Lib.hid (show Below w.heap.size w w1 from by rw [← hw1]; exact (Below.refl _ _).alloc (Nat.le_refl _) _)
  have HX1 := Lib.hid (show w1.heap[B0]? = some (.cells #[.slice (some ⟨gn, 0, none⟩) M.length cn, .slice al L.length cl, .slice (some ⟨gc, 0, none⟩) M.length cc, .slice (some ⟨gd, 0, none⟩) M.length cd, .slice (some ⟨ga, 0, none⟩) M.length ca, .slice af D.length cf] 31) from by rw [← hw1, ← hB0]; exact heap_alloc_new _ _)
  rw [hw1, hB0]
  clear hw1 hB0
  have HXs := Lib.hid (show ∀ X, Below w1.heap.size w1 X → X.heap[B0]? = some (.cells #[.slice (some ⟨gn, 0, none⟩) M.length cn, .slice al L.length cl, .slice (some ⟨gc, 0, none⟩) M.length cc, .slice (some ⟨gd, 0, none⟩) M.length cd, .slice (some ⟨ga, 0, none⟩) M.length ca, .slice af D.length cf] 31) from fun X hX => V.box_keep2 HX1.out hX)
  have HCs := Lib.hid (show ∀ X, Below w1.heap.size w1 X → X.cell? ⟨B0, 0, none⟩ = some (.slice (some ⟨gn, 0, none⟩) M.length cn) ∧ X.cell? ⟨B0, 5, none⟩ = some (.slice af D.length cf) from fun X hX => by
    have q := HXs.out X hX
    refine ⟨?_, ?_⟩ <;> (rw [cell_of_row _ _ _ _ _ _ q]; rfl))
  clear HX1
  go_wp2_with fail
  go_loopw [5, 6] (QRel M Am D w1) (fun _ v _ => D.length - (intOf v).toNat)
  case atStart => exact ⟨0, Nat.zero_le _, rfl, Lib.hid (World.ownsRow_nil _ _ _ _), Lib.hid (Below.refl _ _)⟩
  case round =>
    obtain ⟨k, hk, rfl, HO, HB⟩ := hrel
    obtain ⟨ao5, ac5, hv5⟩ := owns_form HO.out
    subst hv5
    obtain ⟨c0, c5⟩ := HCs.out _ HB.out
    by_cases hlt : k < D.length
    · have e1 : decide ((k : Int) < (D.length : Int)) = true := decide_eq_true (by omega)
      obtain ⟨f, hf⟩ : ∃ f, D[k]? = some f := ⟨_, List.getElem?_eq_getElem hlt⟩
      obtain ⟨gf, cf', e2, _, _⟩ := V.owns_some (HFc.out _ (Below.refl _ _)) (by omega)
      simp only [Value.slice.injEq] at e2
      obtain ⟨rfl, _, rfl⟩ := e2
      have HFf := Lib.hid (show ∀ X : World, Below w.heap.size w X → X.cell? ⟨gf, k, none⟩ = some (.int .i64 f) from fun X hb => V.owns_cell (HFc.out X hb) (V.ints_at hf))
      go_upto_region 5 with fail
      clear c0 c5 e1
      go_wp2_with fail
      go_loopw [7, 8] (BRel M ((k : Int) + 1) wr) (fun _ v _ => M.length - (intOf v).toNat)
      case atStart => exact ⟨0, Nat.zero_le _, rfl, Lib.hid (World.ownsRow_nil _ _ _ _), Lib.hid (Below.refl _ _)⟩
      case round =>
        obtain ⟨j, hj, rfl, HOb, HBb⟩ := hrel
        have HBc := Lib.hid (below_two HB.out HBb.out)
        obtain ⟨c0, c5⟩ := HCs.out _ HBc.out
        have iw : IntKind.i64.wrap ((k : Int) + 1) = (k : Int) + 1 := IntWalk.i64_in _ (by omega)
        by_cases hjl : j < M.length
        · have e2 : decide ((j : Int) < (M.length : Int)) = true := decide_eq_true (by omega)
          obtain ⟨n, hn⟩ : ∃ n, M[j]? = some n := ⟨_, List.getElem?_eq_getElem hjl⟩
          obtain ⟨a0, a7⟩ := HNc.out _ (below_two HB1.out HBc.out) j n hn
          have HBt := Lib.hid (blks_take hn ((k : Int) + 1))
          have hblk := (HOk.out n (List.mem_of_getElem? hn)).blk
          have hbl := blks_len (M.take j) ((k : Int) + 1)
          rw [List.length_take] at hbl
          clear hn
          by_cases hd : n.dev = (k : Int) + 1
          · have e3 : (n.dev == (k : Int) + 1) = true := beq_iff_eq.2 hd
            rw [if_pos hd] at HBt
            generalize blksJ (M.take j) ((k : Int) + 1) = bs at HOb HBt hbl
            obtain ⟨ao, ac, hv7⟩ := owns_form HOb.out
            subst hv7
            have HAa := Lib.hid (show Below wr.heap.size wr (wr.alloc (.cells #[.int .i64 n.blocks] 2)) from (Below.refl _ _).alloc (Nat.le_refl _) _)
            go_wp2_with (at_builtin; go_loud (refine wpList_append_lies _ rfl (.tmp 36) (.tmp 43) 101 rfl (World.heap _).size 2 i0 _ 1 8 Tryz.underlying101 hi0 hz0 hz1 hz2 rfl (by decide) (.slice ao bs.length ac) bs.length (V.ints bs) rfl (by with_reducible exact owns_to HOb.out HAa.out) ⟨wr.heap.size, 0, none⟩ 1 1 [.int .i64 n.blocks] rfl rfl (World.news_of_block (heap_alloc_new _ _)) (by intro u hu; simp only [List.mem_singleton] at hu; subst hu; rfl) (by decide) (by unfold maxLen; omega) (by omega) (Nat.le_trans HBb.out.size HAa.out.size) _ rfl ?_; intro g1 cap1 w11 hown hgrow hat hlt1))
            refine ⟨⟨j + 1, by omega, by simp, Lib.hid ?_, Lib.hid ((HBb.out.trans (HAa.out.mono HBb.out.size)).grown hgrow (Nat.le_trans HBb.out.size HAa.out.size) (fun i hi => (HOb.out.lt i hi).1))⟩, by simp [intOf]; omega⟩
            rw [HBt.out, ints_snoc, List.length_append]
            exact hown
          · have e3 : (n.dev == (k : Int) + 1) = false := beq_eq_false_iff_ne.2 hd
            rw [if_neg hd, List.append_nil] at HBt
            go_wp2_with fail
            go_roundw
            case rel => exact ⟨j + 1, by omega, by go_num, by rw [HBt.out]; exact HOb, HBb⟩
            case measure => simp [intOf]; omega
        · have hjn : j = M.length := by omega
          have e2 : decide ((j : Int) < (M.length : Int)) = false := decide_eq_false (by omega)
          rw [show M.take j = M by rw [hjn]; exact List.take_length] at HOb
          clear hjn
          go_upto_region 11 with fail
          clear c0 c5 e2
          have hbl := blks_len M ((k : Int) + 1)
          have hub := used_bd HOk.out ((k : Int) + 1)
          obtain ⟨ao, ac, hv7⟩ := owns_form HOb.out
          subst hv7
          have HAd := Lib.hid (fun (X : World) (hb : Below wr.heap.size wr X) => refAdd_own (blksJ M ((k : Int) + 1)) (owns_to HOb.out hb) (by omega) (blks_bd HOk.out _))
          have hsb := N.addAll_bd (blksJ M ((k : Int) + 1))
          have HCe := Lib.hid (fun X => N.refCeil_any (N.addAll (blksJ M ((k : Int) + 1))) 2 X hsb.1 hsb.2 (by omega) (by omega))
          have HUe := Lib.hid (show N.ceilZ (N.addAll (blksJ M ((k : Int) + 1))) 2 = usedJ M ((k : Int) + 1) from rfl)
          rw [HUe.out] at HCe
          have HDf := Lib.hid (HDr.out k f hf)
          have HTk := Lib.hid (show cellsC rwC (rowsL M Am (D.take (k + 1)) 0) = cellsC rwC (rowsL M Am (D.take k) 0) ++ rwC (rowJ M Am ((k : Int) + 1) f) from by rw [rowsL_take M Am hf, cellsC_app, cellsC_one])
          have HRw := Lib.hid (show rwC (rowJ M Am ((k : Int) + 1) f) = [.int .i64 ((k : Int) + 1), .int .i64 Am, .int .i64 (usedJ M ((k : Int) + 1)), .int .i64 (max (Am - usedJ M ((k : Int) + 1)) 0), .int .i64 (N.pctZ (usedJ M ((k : Int) + 1)) (N.cutZ (usedJ M ((k : Int) + 1) + max (Am - usedJ M ((k : Int) + 1)) 0))), .string (whereJ M f)] from rfl)
          clear HUe hf
          generalize usedJ M ((k : Int) + 1) = U at hub HCe HRw
          go_upto_region 12 with (first
            | (go_at_call 45; refine (HAd.out _ (by first | exact Below.refl _ _ | assumption)).mono ?_; rintro e w4 ⟨rfl, hw4⟩; subst hw4)
            | (go_at_call 44; refine (HCe.out _).mono ?_; rintro e w5 ⟨rfl, hw5⟩; subst hw5)
            | (refine wpList_store_row rfl 38 (.tmp 9) (.tmp 52) rfl wr.heap.size #[.int .i64 ((k : Int) + 1), .int .i64 Am, .int .i64 U, .int .i64 0, .int .i64 0, .string ⟨#[63]⟩] rfl rfl _ _ (heap_alloc_new _ _) (by rw [sizeRw]; rfl) rfl (row_one _ _ _ _ _ _) ?_; rw [World.setRow_alloc_new]))
          have HA9 := Lib.hid (show Below wr.heap.size wr (wr.alloc (.cells #[.int .i64 ((k : Int) + 1), .int .i64 Am, .int .i64 U, .int .i64 0, .int .i64 0, .string ⟨#[63]⟩] 38)) from (Below.refl _ _).alloc (Nat.le_refl _) _)
          have HX9 := Lib.hid (heap_alloc_new wr (.cells #[.int .i64 ((k : Int) + 1), .int .i64 Am, .int .i64 U, .int .i64 0, .int .i64 0, .string ⟨#[63]⟩] 38))
          generalize wr.alloc (.cells #[.int .i64 ((k : Int) + 1), .int .i64 Am, .int .i64 U, .int .i64 0, .int .i64 0, .string ⟨#[63]⟩] 38) = w9 at HA9 HX9 ⊢
          have HBd := Lib.hid (below_two HBc.out HA9.out)
          have HOw := Lib.hid (owns_to (owns_to HO.out HBb.out) HA9.out)
          have HNe := Lib.hid (show ∀ j, Value.ownBlock (.slice ao5 k ac5) = some j → wr.heap.size ≠ j from fun j hj e => by have := (HO.out.lt j hj).2; have := HBb.out.size; omega)
          have hbs : wr.heap.size ≤ w9.heap.size := HA9.out.size
          have HBs := Lib.hid (show _ ≤ wr.heap.size from HBc.out.size)
          generalize wr.heap.size = b9 at HX9 HBs HNe ⊢
          clear HA9 hbs HO HB HBc HBb HOb
          have c1 : w9.cell? ⟨b9, 1, none⟩ = some (.int .i64 Am) := by rw [cell_of_row _ _ _ _ _ _ HX9.out]; rfl
          have c2 : w9.cell? ⟨b9, 2, none⟩ = some (.int .i64 U) := by rw [cell_of_row _ _ _ _ _ _ HX9.out]; rfl
          have c3 : w9.cell? ⟨b9, 3, none⟩ = some (.int .i64 0) := by rw [cell_of_row _ _ _ _ _ _ HX9.out]; rfl
          obtain ⟨Lf, hLf⟩ : ∃ Lf, max (Am - U) 0 = Lf := ⟨_, rfl⟩
          have hlb : 0 ≤ Lf ∧ Lf ≤ 9223372036854775807 := by omega
          rw [hLf] at HRw
          have HAs := Lib.hid (fun (g : Nat) (X : World) (h0 : X.cell? ⟨g, 0, none⟩ = some (.int .i64 U)) (h1 : X.cell? ⟨g, 1, none⟩ = some (.int .i64 Lf)) => refAdd2_any U Lf g X h0 h1 (by omega) (by omega))
          have hsb2 := N.cutZ_bd (U + Lf)
          generalize N.cutZ (U + Lf) = S at HAs HRw hsb2
          go_upto_if 57 with fail
          go_cut [57] from 18 to 101 (fun _ wx => Hid (wx.heap[b9]? = some (.cells #[.int .i64 ((k : Int) + 1), .int .i64 Am, .int .i64 U, .int .i64 Lf, .int .i64 0, .string ⟨#[63]⟩] 38 (0, 0))) ∧ Hid (Below w1.heap.size w1 wx) ∧ Hid (wx.ownsRow w1.heap.size 38 6 (.slice ao5 k ac5) k (cellsC rwC (rowsL M Am (D.take k) 0))))
          case first =>
            rcases Decidable.em (U < Am) with hlt2 | hlt2
            · have e5 : decide (U < Am) = true := decide_eq_true hlt2
              have iw2 : IntKind.i64.wrap (Am - U) = Am - U := IntWalk.i64_in _ (by omega)
              have fz := frozen_row HX9.out 3
              have hL2 : Am - U = Lf := by omega
              have HL2 := Lib.hid hL2
              clear hL2 hLf
              go_wp2_with fail
              go_meet
              have HXa := Lib.hid (show (w9.setCell ⟨b9, 3, none⟩ (.int .i64 (Am - U))).heap[b9]? = some (.cells #[.int .i64 ((k : Int) + 1), .int .i64 Am, .int .i64 U, .int .i64 Lf, .int .i64 0, .string ⟨#[63]⟩] 38 (0, 0)) from by rw [heap_setCell_same _ _ _ _ _ _ HX9.out, ← HL2.out]; rfl)
              exact ⟨HXa, Lib.hid (HBd.out.setCell HBs.out _), Lib.hid (owns_at HOw.out fun j hj => heap_setCell_other _ _ _ _ (fun e => HNe.out j hj e.symm))⟩
            · have e5 : decide (U < Am) = false := decide_eq_false hlt2
              have HL0 := Lib.hid (show Lf = 0 by omega)
              clear hLf
              go_wp2_with fail
              go_meet
              exact ⟨Lib.hid (by rw [HL0.out]; exact HX9.out), HBd, HOw⟩
          case rest =>
            obtain ⟨HXa, HBa, HOa⟩ := hcut
            clear c1 c2 c3 HX9 HBd HOw hLf
            generalize wc = wa at HXa HBa HOa ⊢
            have c2 : wa.cell? ⟨b9, 2, none⟩ = some (.int .i64 U) := by rw [cell_of_row _ _ _ _ _ _ HXa.out]; rfl
            have c3 : wa.cell? ⟨b9, 3, none⟩ = some (.int .i64 Lf) := by rw [cell_of_row _ _ _ _ _ _ HXa.out]; rfl
            go_upto_region 15 with (go_at_call 45; refine (HAs.out wa.heap.size (wa.alloc (.cells #[.int .i64 U, .int .i64 Lf] 2)) (by rw [cell_of_row _ _ _ _ _ _ (heap_alloc_new _ _)]; rfl) (by rw [cell_of_row _ _ _ _ _ _ (heap_alloc_new _ _)]; rfl)).mono ?_; rintro e wb ⟨rfl, hwb⟩; have HBb2 := Lib.hid (show Below w1.heap.size w1 wb ∧ wb.heap[b9]? = wa.heap[b9]? ∧ Below wa.heap.size wa wb from by rw [← hwb]; exact ⟨HBa.out.alloc HBa.out.size _, heap_alloc_old _ _ (heap_lt HXa.out), (Below.refl _ _).alloc (Nat.le_refl _) _⟩); clear hwb)
            clear c2 c3 HAs
            have HBe := Lib.hid HBb2.out.1
            have HXb := Lib.hid (HBb2.out.2.1.trans HXa.out)
            have HOe := Lib.hid (owns_to HOa.out HBb2.out.2.2)
            clear HBb2 HXa HBa HOa
-- TILL 15
            refine B.Till.region (z := 1000) (S := fun w' => Below wb.heap.size wb w') (by kernel_rfl) ((Below.refl _ _).drew) (fun hHeld => ?_)
            refine B.Till.takeA (i := 0) (oi := ⟨some 71, .load 31 (.tmp 2), 31, "ref.go:82", #[], none⟩) (v := .agg #[.slice (some ⟨gn, 0, none⟩) M.length cn, .slice al L.length cl, .slice (some ⟨gc, 0, none⟩) M.length cc, .slice (some ⟨gd, 0, none⟩) M.length cd, .slice (some ⟨ga, 0, none⟩) M.length ca, .slice (some ⟨gf, 0, none⟩) D.length cf]) rfl (by kernel_rfl) (by kernel_rfl) (by kernel_rfl) (by kernel_rfl) (fun _ _ _ h => h) (yieldsIf_load_mid (by rfl) 31 (.tmp 2) rfl B0 0 rfl [.slice (some ⟨gn, 0, none⟩) M.length cn, .slice al L.length cl, .slice (some ⟨gc, 0, none⟩) M.length cc, .slice (some ⟨gd, 0, none⟩) M.length cd, .slice (some ⟨ga, 0, none⟩) M.length ca, .slice (some ⟨gf, 0, none⟩) D.length cf] _ (fun w0 hS0 => range_of (HXs.out _ (below_two HBe.out hS0))) Tryz.underlying31 rfl sizeFs6) (by assumption) ?_
            try simp only [Act.put, lt, l0, ls]
            refine B.Till.takeA (i := 1) (oi := ⟨some 72, .fieldAddr 31 (.tmp 2) 5, 0, "ref.go:82", #[], none⟩) (v := .pointer (some ⟨B0, 5, none⟩)) rfl (by kernel_rfl) (by kernel_rfl) (by kernel_rfl) (by kernel_rfl) (fun _ _ _ h => h) (Or.inl ⟨by rfl, fun w0 hS0 => ?_⟩) (by assumption) ?_
            · go_simp
            try simp only [Act.put, lt, l0, ls]
            refine B.Till.takeA (i := 2) (oi := ⟨some 73, .load 28 (.tmp 72), 28, "ref.go:82", #[⟨1, .data⟩], none⟩) (v := .slice (some ⟨gf, 0, none⟩) D.length cf) rfl (by kernel_rfl) (by kernel_rfl) (by kernel_rfl) (by kernel_rfl) (fun _ _ _ h => h) (Or.inl ⟨by rfl, fun w0 hS0 => ?_⟩) (by assumption) ?_
            · have b4 := (HCs.out _ (below_two HBe.out hS0)).2; go_simp
            try simp only [Act.put, lt, l0, ls]
            refine B.Till.takeA (i := 3) (oi := ⟨some 74, .move (.tmp 6), 3, "ref.go:82", #[], none⟩) (v := .int .i64 (k : Int)) rfl (by kernel_rfl) (by kernel_rfl) (by kernel_rfl) (by kernel_rfl) (fun _ _ _ h => h) (Or.inl ⟨by rfl, fun w0 hS0 => ?_⟩) (by assumption) ?_
            · go_simp
            try simp only [Act.put, lt, l0, ls]
            refine B.Till.takeA (i := 4) (oi := ⟨some 75, .indexAddr 28 (.tmp 73) (.tmp 74), 0, "ref.go:82", #[⟨2, .data⟩, ⟨3, .data⟩], none⟩) (v := .pointer (some ⟨gf, k, none⟩)) rfl (by kernel_rfl) (by kernel_rfl) (by kernel_rfl) (by kernel_rfl) (fun _ _ _ h => h) (Or.inl ⟨by rfl, fun w0 hS0 => ?_⟩) (by assumption) ?_
            · have hkk : ¬ ((D.length : Int) ≤ (k : Int)) := (by omega); go_simp
            try simp only [Act.put, lt, l0, ls]
            refine B.Till.takeA (i := 5) (oi := ⟨some 76, .load 3 (.tmp 75), 3, "ref.go:82", #[⟨4, .data⟩], none⟩) (v := .int .i64 f) rfl (by kernel_rfl) (by kernel_rfl) (by kernel_rfl) (by kernel_rfl) (fun _ _ _ h => h) (Or.inl ⟨by rfl, fun w0 hS0 => ?_⟩) (by assumption) ?_
            · have b4 := HFf.out _ (below_two HB1.out (below_two HBe.out hS0)); go_simp
            try simp only [Act.put, lt, l0, ls]
            refine B.Till.next (i := 6) (o := ⟨some 77, .call ⟨.value (.func 46), #[.tmp 71, .tmp 76, .const (.int .i64 400)], #[31, 3, 3]⟩, 94, "ref.go:82", #[⟨0, .data⟩, ⟨5, .data⟩], none⟩) (by kernel_rfl) rfl (fun K hK => ?_)
            go_simp
            refine (HDf.out _ (below_two HB1.out (below_two HBe.out hHeld))).mono ?_
            rintro e wd ⟨s, er, rfl, hq, hbd⟩
            have HQ := Lib.hid hq
            have hHd : Below wb.heap.size wb wd := below_two hHeld hbd
            clear hq hbd
            go_wp2_with fail
            refine hK.out _ _ (fun _ => hHd) ?_
            clear hK K
            try simp only [Act.put, lt, l0, ls]
            refine B.Till.takeA (i := 7) (oi := ⟨some 70, .move (.tmp 77), 94, "ref.go:82", #[⟨6, .data⟩], none⟩) (v := .tuple #[.string s, .int .i64 er]) rfl (by kernel_rfl) (by kernel_rfl) (by kernel_rfl) (by kernel_rfl) (fun _ _ _ h => h) (Or.inl ⟨by rfl, fun w0 hS0 => ?_⟩) (by assumption) ?_
            · go_simp
            try simp only [Act.put, lt, l0, ls]
            refine B.Till.takeA (i := 8) (oi := ⟨some 78, .extract (.tmp 70) 0, 9, "ref.go:82", #[⟨7, .data⟩], none⟩) (v := .string s) rfl (by kernel_rfl) (by kernel_rfl) (by kernel_rfl) (by kernel_rfl) (fun _ _ _ h => h) (Or.inl ⟨by rfl, fun w0 hS0 => ?_⟩) (by assumption) ?_
            · go_simp
            try simp only [Act.put, lt, l0, ls]
            refine B.Till.takeA (i := 9) (oi := ⟨some 79, .extract (.tmp 70) 1, 55, "ref.go:82", #[⟨7, .data⟩, ⟨10, .gcOnly .lateStores⟩], none⟩) (v := .int .i64 er) rfl (by kernel_rfl) (by kernel_rfl) (by kernel_rfl) (by kernel_rfl) (fun _ _ _ h => h) (Or.inl ⟨by rfl, fun w0 hS0 => ?_⟩) (by assumption) ?_
            · go_simp
            try simp only [Act.put, lt, l0, ls]
            refine B.Till.takeA (i := 10) (oi := ⟨some 11, .assign (.tmp 78), 9, "ref.go:82", #[⟨8, .data⟩, ⟨6, .chain⟩, ⟨0, .phase⟩, ⟨1, .phase⟩, ⟨2, .phase⟩, ⟨3, .phase⟩, ⟨4, .phase⟩, ⟨5, .phase⟩, ⟨6, .phase⟩, ⟨7, .phase⟩, ⟨8, .phase⟩, ⟨9, .textOnly .lateStores⟩], none⟩) (v := .string s) rfl (by kernel_rfl) (by kernel_rfl) (by kernel_rfl) (by kernel_rfl) (fun _ _ _ h => h) (Or.inl ⟨by rfl, fun w0 hS0 => ?_⟩) (by assumption) ?_
            · go_simp
            try simp only [Act.put, lt, l0, ls]
            refine B.Till.takeA (i := 11) (oi := ⟨some 12, .assign (.tmp 79), 55, "ref.go:82", #[⟨9, .data⟩, ⟨10, .chain⟩, ⟨0, .phase⟩, ⟨1, .phase⟩, ⟨2, .phase⟩, ⟨3, .phase⟩, ⟨4, .phase⟩, ⟨5, .phase⟩, ⟨6, .phase⟩, ⟨7, .phase⟩, ⟨8, .phase⟩, ⟨9, .phase⟩, ⟨10, .phase⟩], none⟩) (v := .int .i64 er) rfl (by kernel_rfl) (by kernel_rfl) (by kernel_rfl) (by kernel_rfl) (fun _ _ _ h => h) (Or.inl ⟨by rfl, fun w0 hS0 => ?_⟩) (by assumption) ?_
            · go_simp
            try simp only [Act.put, lt, l0, ls]
            refine B.Till.done (by kernel_rfl) ?_
-- TILL 15 END
            have HBf := Lib.hid (below_two HBe.out hHd)
            have HXf := Lib.hid (V.box_keep2 HXb.out hHd)
            have HOf := Lib.hid (owns_to HOe.out hHd)
            clear hHd HXb HBe HOe
            go_upto_if 81 with fail
            go_cut [81] from 18 to 101 (fun _ wx => ∃ AT : ByteArray, Hid (whereJ M f = AT) ∧ Hid (wx.heap[b9]? = some (.cells #[.int .i64 ((k : Int) + 1), .int .i64 Am, .int .i64 U, .int .i64 Lf, .int .i64 0, .string AT] 38 (0, 0))) ∧ Hid (Below w1.heap.size w1 wx) ∧ Hid (wx.ownsRow w1.heap.size 38 6 (.slice ao5 k ac5) k (cellsC rwC (rowsL M Am (D.take k) 0))))
            case first =>
              rcases HQ.out with ⟨rfl, ns, hd, hs⟩ | ⟨her, hs, hno⟩
              · have HWs := Lib.hid (show whereJ M f = s from (where_is hd).trans hs.symm)
                clear hd hs HQ
                have fz := frozen_row HXf.out 5
                have cq : wd.cell? ⟨b9, 5, none⟩ = some (.string ⟨#[63]⟩) := by rw [cell_of_row _ _ _ _ _ _ HXf.out]; rfl
                go_wp2_with fail
                go_meet
                exact ⟨s, HWs, Lib.hid (by rw [heap_setCell_same _ _ _ _ _ _ HXf.out]; rfl), Lib.hid (HBf.out.setCell HBs.out _), Lib.hid (owns_at HOf.out fun j hj => heap_setCell_other _ _ _ _ (fun e => HNe.out j hj e.symm))⟩
              · have d7 : (er == 0) = false := beq_eq_false_iff_ne.2 her
                have HWs := Lib.hid (where_no hno)
                clear her hs hno HQ
                go_wp2_with fail
                go_meet
                exact ⟨_, HWs, HXf, HBf, HOf⟩
            case rest =>
              obtain ⟨AT, HWs, HXg, HBg, HOg⟩ := hcut
              clear HXf HBf HOf HQ
              generalize wc = wg at HXg HBg HOg ⊢
              rw [HWs.out] at HRw
              go_upto_region 18 with fail
              clear HWs
              have HPc := Lib.hid (fun (X : World) => N.refPercent_any U S X (by omega) (by omega) (by omega) (by omega))
              unfold N.pctPost at HPc
              generalize N.pctZ U S = PC at HPc HRw
-- TILL 18
              refine B.Till.region (z := 1000) (S := fun w' => Below w1.heap.size w1 w' ∧ w'.heap[b9]? = some (.cells #[.int .i64 ((k : Int) + 1), .int .i64 Am, .int .i64 U, .int .i64 Lf, .int .i64 0, .string AT] 38 (0, 0))) (by kernel_rfl) ⟨HBg.out.drew, HXg.out⟩ (fun hHeld => ?_)
              refine B.Till.tk 0 (oi := ⟨some 84, .move (.tmp 5), 34, "ref.go:86", #[], none⟩) (.slice ao5 k ac5) rfl (fun w0 hS0 => ?_) ?_
              · go_simp
              try simp only [Act.put, lt, l0, ls]
              refine B.Till.tk 1 (oi := ⟨some 85, .fieldAddr 38 (.tmp 9) 0, 0, "ref.go:86", #[], none⟩) (.pointer (some ⟨b9, 0, none⟩)) rfl (fun w0 hS0 => ?_) ?_
              · go_simp
              try simp only [Act.put, lt, l0, ls]
              refine B.Till.tk 2 (oi := ⟨some 86, .load 3 (.tmp 85), 3, "ref.go:86", #[⟨1, .data⟩], none⟩) (.int .i64 ((k : Int) + 1)) rfl (fun w0 hS0 => ?_) ?_
              · have b4 : w0.cell? ⟨b9, 0, none⟩ = some (.int .i64 ((k : Int) + 1)) := by rw [cell_of_row _ _ _ _ _ _ hS0.2]; rfl
                go_simp
              try simp only [Act.put, lt, l0, ls]
              refine B.Till.tk 3 (oi := ⟨some 87, .fieldAddr 38 (.tmp 9) 1, 0, "ref.go:86", #[], none⟩) (.pointer (some ⟨b9, 1, none⟩)) rfl (fun w0 hS0 => ?_) ?_
              · go_simp
              try simp only [Act.put, lt, l0, ls]
              refine B.Till.tk 4 (oi := ⟨some 88, .load 2 (.tmp 87), 2, "ref.go:86", #[⟨3, .data⟩], none⟩) (.int .i64 Am) rfl (fun w0 hS0 => ?_) ?_
              · have b4 : w0.cell? ⟨b9, 1, none⟩ = some (.int .i64 Am) := by rw [cell_of_row _ _ _ _ _ _ hS0.2]; rfl
                go_simp
              try simp only [Act.put, lt, l0, ls]
              refine B.Till.tk 5 (oi := ⟨some 89, .fieldAddr 38 (.tmp 9) 2, 0, "ref.go:86", #[], none⟩) (.pointer (some ⟨b9, 2, none⟩)) rfl (fun w0 hS0 => ?_) ?_
              · go_simp
              try simp only [Act.put, lt, l0, ls]
              refine B.Till.tk 6 (oi := ⟨some 90, .load 2 (.tmp 89), 2, "ref.go:86", #[⟨5, .data⟩], none⟩) (.int .i64 U) rfl (fun w0 hS0 => ?_) ?_
              · have b4 : w0.cell? ⟨b9, 2, none⟩ = some (.int .i64 U) := by rw [cell_of_row _ _ _ _ _ _ hS0.2]; rfl
                go_simp
              try simp only [Act.put, lt, l0, ls]
              refine B.Till.tk 7 (oi := ⟨some 91, .fieldAddr 38 (.tmp 9) 3, 0, "ref.go:86", #[], none⟩) (.pointer (some ⟨b9, 3, none⟩)) rfl (fun w0 hS0 => ?_) ?_
              · go_simp
              try simp only [Act.put, lt, l0, ls]
              refine B.Till.tk 8 (oi := ⟨some 92, .load 2 (.tmp 91), 2, "ref.go:86", #[⟨7, .data⟩], none⟩) (.int .i64 Lf) rfl (fun w0 hS0 => ?_) ?_
              · have b4 : w0.cell? ⟨b9, 3, none⟩ = some (.int .i64 Lf) := by rw [cell_of_row _ _ _ _ _ _ hS0.2]; rfl
                go_simp
              try simp only [Act.put, lt, l0, ls]
              refine B.Till.tk 9 (oi := ⟨some 93, .fieldAddr 38 (.tmp 9) 2, 0, "ref.go:86", #[], none⟩) (.pointer (some ⟨b9, 2, none⟩)) rfl (fun w0 hS0 => ?_) ?_
              · go_simp
              try simp only [Act.put, lt, l0, ls]
              refine B.Till.tk 10 (oi := ⟨some 94, .load 2 (.tmp 93), 2, "ref.go:86", #[⟨9, .data⟩], none⟩) (.int .i64 U) rfl (fun w0 hS0 => ?_) ?_
              · have b4 : w0.cell? ⟨b9, 2, none⟩ = some (.int .i64 U) := by rw [cell_of_row _ _ _ _ _ _ hS0.2]; rfl
                go_simp
              try simp only [Act.put, lt, l0, ls]
              refine B.Till.tk 11 (oi := ⟨some 95, .move (.tmp 10), 2, "ref.go:86", #[], none⟩) (.int .i64 S) rfl (fun w0 hS0 => ?_) ?_
              · go_simp
              try simp only [Act.put, lt, l0, ls]
              refine B.Till.tk 13 (oi := ⟨some 97, .fieldAddr 38 (.tmp 9) 5, 0, "ref.go:86", #[], none⟩) (.pointer (some ⟨b9, 5, none⟩)) rfl (fun w0 hS0 => ?_) ?_
              · go_simp
              try simp only [Act.put, lt, l0, ls]
              refine B.Till.tk 14 (oi := ⟨some 98, .load 9 (.tmp 97), 9, "ref.go:86", #[⟨13, .data⟩], none⟩) (.string AT) rfl (fun w0 hS0 => ?_) ?_
              · have b4 : w0.cell? ⟨b9, 5, none⟩ = some (.string AT) := by rw [cell_of_row _ _ _ _ _ _ hS0.2]; rfl
                go_simp
              try simp only [Act.put, lt, l0, ls]
              refine B.Till.tn 12 (o := ⟨some 96, .call ⟨.value (.func 47), #[.tmp 94, .tmp 95], #[2, 2]⟩, 2, "ref.go:86", #[⟨10, .data⟩, ⟨11, .data⟩], none⟩) rfl (fun K hK => ?_)
              go_simp
              refine (HPc.out _).mono ?_
              rintro e w4 ⟨rfl, k4, hw4⟩
              have hH4 : Below w1.heap.size w1 w4 ∧ w4.heap[b9]? = some (.cells #[.int .i64 ((k : Int) + 1), .int .i64 Am, .int .i64 U, .int .i64 Lf, .int .i64 0, .string AT] 38 (0, 0)) := by rw [hw4]; exact ⟨below_drewNb hHeld.1, hHeld.2⟩
              have hO4 : w4.ownsRow w1.heap.size 38 6 (.slice ao5 k ac5) k (cellsC rwC (rowsL M Am (D.take k) 0)) := by rw [hw4]; exact HOg.out
              clear hw4
              go_wp2_with fail
              refine hK.out _ _ (fun _ => hH4) ?_
              clear hK K
              try simp only [Act.put, lt, l0, ls]
              refine B.Till.tk 15 (oi := ⟨some 99, .build 38 #[(0, .tmp 86), (1, .tmp 88), (2, .tmp 90), (3, .tmp 92), (4, .tmp 96), (5, .tmp 98)], 38, "ref.go:86", #[⟨2, .data⟩, ⟨4, .data⟩, ⟨6, .data⟩, ⟨8, .data⟩, ⟨12, .data⟩, ⟨14, .data⟩], none⟩) (.agg #[.int .i64 ((k : Int) + 1), .int .i64 Am, .int .i64 U, .int .i64 Lf, .int .i64 PC, .string AT]) rfl (fun w0 hS0 => ?_) ?_
              · go_simp
              try simp only [Act.put, lt, l0, ls]
              refine B.Till.tn 16 (o := ⟨some 100, .buildSlice 34 1 #[(0, .tmp 99)], 34, "ref.go:86", #[⟨15, .data⟩], none⟩) rfl (fun K hK => ?_)
              go_simp
              refine hK.out _ _ (fun _ => ⟨hH4.1.alloc hH4.1.size _, (heap_alloc_old _ _ (heap_lt hH4.2)).trans hH4.2⟩) ?_
              clear hK K
              try simp only [Act.put, lt, l0, ls]
              refine B.Till.tn 17 (o := ⟨some 101, .call ⟨.builtin .append, #[.tmp 84, .tmp 100], #[34, 34]⟩, 34, "ref.go:86", #[⟨0, .data⟩, ⟨16, .data⟩, ⟨12, .chain⟩], none⟩) rfl (fun K hK => ?_)
              have HOb2 := Lib.hid (owns_to hO4 (show Below w4.heap.size w4 (w4.alloc (.cells #[.int .i64 ((k : Int) + 1), .int .i64 Am, .int .i64 U, .int .i64 Lf, .int .i64 PC, .string AT] 38)) from (Below.refl _ _).alloc (Nat.le_refl _) _))
              refine step_append_lies _ rfl (.tmp 84) (.tmp 100) 34 rfl w1.heap.size 38 j0 _ 6 56 Tryz.underlying34 hj0 hy0 hy1 hy2 rfl (by decide) (.slice ao5 k ac5) k (cellsC rwC (rowsL M Am (D.take k) 0)) (by simp [Act.eval]) HOb2.out ⟨w4.heap.size, 0, none⟩ 1 1 [.int .i64 ((k : Int) + 1), .int .i64 Am, .int .i64 U, .int .i64 Lf, .int .i64 PC, .string AT] (by simp [Act.eval]) rfl (World.news_of_block (heap_alloc_new _ _)) (by rw [← HRw.out]; exact rwC_one _) (by decide) (by unfold maxLen; omega) (by omega) (hH4.1.alloc hH4.1.size _).size _ rfl ?_
              intro g1 cap1 w11 hown hgrow hat hlt1
              have hH5 : Below w1.heap.size w1 w11 ∧ w11.heap[b9]? = some (.cells #[.int .i64 ((k : Int) + 1), .int .i64 Am, .int .i64 U, .int .i64 Lf, .int .i64 0, .string AT] 38 (0, 0)) := ⟨(hH4.1.alloc hH4.1.size _).grown hgrow (hH4.1.alloc hH4.1.size _).size (fun j hj => (HOb2.out.lt j hj).1), (hgrow.block b9 (by have := heap_lt hH4.2; simp; omega) (fun e => HNe.out b9 e.symm rfl)).trans ((heap_alloc_old _ _ (heap_lt hH4.2)).trans hH4.2)⟩
              have HO11 := Lib.hid hown
              clear hown hgrow hat hlt1 HOb2
              refine hK.out _ _ (fun _ => hH5) ?_
              clear hK K
              try simp only [Act.put, lt, l0, ls]
              refine B.Till.tk 18 (oi := ⟨some 5, .assign (.tmp 101), 34, "ref.go:86", #[⟨17, .data⟩, ⟨17, .chain⟩, ⟨0, .phase⟩, ⟨1, .phase⟩, ⟨2, .phase⟩, ⟨3, .phase⟩, ⟨4, .phase⟩, ⟨5, .phase⟩, ⟨6, .phase⟩, ⟨7, .phase⟩, ⟨8, .phase⟩, ⟨9, .phase⟩, ⟨10, .phase⟩, ⟨11, .phase⟩, ⟨12, .phase⟩, ⟨13, .phase⟩, ⟨14, .phase⟩, ⟨15, .phase⟩, ⟨16, .phase⟩, ⟨17, .phase⟩], none⟩) (.slice (some ⟨g1, 0, none⟩) (k + 1) cap1) rfl (fun w0 hS0 => ?_) ?_
              · go_simp
              try simp only [Act.put, lt, l0, ls]
              refine B.Till.done (by kernel_rfl) ?_
              have HB11 := Lib.hid hH5.1
              clear hH5 hH4 hO4 hHeld
              go_wp2_with fail
              go_roundw
              case rel => exact ⟨k + 1, by omega, by simp, Lib.hid (by rw [HTk.out, HRw.out]; exact HO11.out), HB11⟩
              case measure => simp [intOf]; omega
-- TILL 18 END
    · have hkn : k = D.length := by omega
      have e1 : decide ((k : Int) < (D.length : Int)) = false := decide_eq_false (by omega)
      rw [show D.take k = D by rw [hkn]; exact List.take_length] at HO
      have HKk := Lib.hid hkn
      clear hkn
      go_wp2_with fail
      go_ret
      refine ⟨.slice ao5 k ac5, rfl, ?_, below_two HB1.out HB.out⟩
      have q := owns_low HO.out HB1.out.size
      rw [HAl.out]
      rw [HKk.out] at q ⊢
      exact q
end Go.Proofs.YtknfhphhcnbndaaGreatDoor.J
