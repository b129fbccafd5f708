/-
  What the reference's Over, Up, Link, List, Node and Same return. Conditions: at most 1000000 nodes and entries; the reference's slices and the list of entries go with the nodes.
-/
import Derived.Test.YtknfhphhcnbndaaGreatDoorFVLinks
import Derived.Test.YtknfhphhcnbndaaGreatDoorFVAsk
import Derived.Test.YtknfhphhcnbndaaGreatDoorFVSame
set_option linter.unusedSimpArgs false
set_option linter.unusedVariables false
namespace Go.Proofs.YtknfhphhcnbndaaGreatDoor.V
open Go.RowKit

theorem Rs.at6 {M : List Nd} {L : List It} {v : Rv} {w : World} (H : Rs M L v w) (hn : 0 < M.length) :
    ∃ gn cn al cl gc cc gd cd ga ca af cf, v = ⟨.slice (some ⟨gn, 0, none⟩) M.length cn, .slice al L.length cl, .slice (some ⟨gc, 0, none⟩) M.length cc, .slice (some ⟨gd, 0, none⟩) M.length cd, .slice (some ⟨ga, 0, none⟩) M.length ca, .slice af (devL M 0).length cf⟩ := by
  obtain ⟨an, cn, al, cl, ac, cc, ad, cd, aa, ca, af, cf, rfl⟩ := H.forms
  obtain ⟨gn, cn', e1, _, _⟩ := owns_some H.hn hn
  obtain ⟨gc, cc', e2, _, _⟩ := owns_some H.hc hn
  obtain ⟨gd, cd', e3, _, _⟩ := owns_some H.hd hn
  obtain ⟨ga, ca', e4, _, _⟩ := owns_some H.ha hn
  simp only [Value.slice.injEq, true_and] at e1 e2 e3 e4
  obtain ⟨rfl, rfl⟩ := e1
  obtain ⟨rfl, rfl⟩ := e2
  obtain ⟨rfl, rfl⟩ := e3
  obtain ⟨rfl, rfl⟩ := e4
  exact ⟨gn, cn, al, cl, gc, cc, gd, cd, ga, ca, af, cf, rfl⟩
theorem Rs.dead_cell {M : List Nd} {L : List It} {gd cd : Nat} {n l c a f : Value} {w : World} (H : Rs M L ⟨n, l, c, .slice (some ⟨gd, 0, none⟩) M.length cd, a, f⟩ w) {i : Nat} {x : Nd} (hx : M[i]? = some x) : w.cell? ⟨gd, i, none⟩ = some (.bool x.dead) :=
  owns_cell H.hd (by unfold deads; rw [List.getElem?_map, hx]; rfl)
theorem Rs.up_cell {M : List Nd} {L : List It} {ga ca : Nat} {n l c d f : Value} {w : World} (H : Rs M L ⟨n, l, c, d, .slice (some ⟨ga, 0, none⟩) M.length ca, f⟩ w) {i : Nat} {x : Nd} (hx : M[i]? = some x) : w.cell? ⟨ga, i, none⟩ = some (.int .i64 x.up) :=
  owns_cell H.ha (by unfold ups; rw [List.getElem?_map, hx]; rfl)
theorem R_over {M : List Nd} {L : List It} (R : Rel M L) {j : Nat} {x : Nd} (hx : M[j]? = some x) : 0 ≤ x.over := R.over x (List.mem_of_getElem? hx)
theorem owns_lower {w : World} {b c : Nat} {e : TypeId} {size n : Nat} {v : Value} {xs : List Value} (h : w.ownsRow b e size v n xs) (hc : c ≤ b) : w.ownsRow c e size v n xs := by
  refine ⟨h.1, ?_⟩
  rcases h.2 with q | ⟨g, cap, cur, q1, q2, q3⟩
  · exact .inl q
  · exact .inr ⟨g, cap, cur, q1, Nat.le_trans hc q2, q3⟩
/-- In w the reference's box lies at b, over the world W. -/
structure FIn (W : World) (v : Rv) (w : World) : Prop where
  box : w.heap[W.heap.size]? = some (.cells #[v.n, v.l, v.c, v.d, v.a, v.f] 31)
  below : Below W.heap.size W w
theorem FIn.begin (W : World) (v : Rv) : FIn W v (W.alloc (.cells #[v.n, v.l, v.c, v.d, v.a, v.f] 31)) :=
  ⟨heap_alloc_new _ _, (Below.refl _ _).alloc (Nat.le_refl _) _⟩
theorem FIn.keep {W : World} {v : Rv} {w w' : World} (h : FIn W v w) (hb : Below w.heap.size w w') : FIn W v w' := ⟨box_keep2 h.box hb, below_two h.below hb⟩
theorem FIn.cells {W : World} {v : Rv} {w : World} (h : FIn W v w) :
    w.cell? ⟨W.heap.size, 0, none⟩ = some v.n ∧ w.cell? ⟨W.heap.size, 1, none⟩ = some v.l ∧ w.cell? ⟨W.heap.size, 2, none⟩ = some v.c ∧ w.cell? ⟨W.heap.size, 3, none⟩ = some v.d ∧ w.cell? ⟨W.heap.size, 4, none⟩ = some v.a ∧ w.cell? ⟨W.heap.size, 5, none⟩ = some v.f := by
  refine ⟨?_, ?_, ?_, ?_, ?_, ?_⟩ <;> (rw [cell_of_row _ _ _ _ _ _ h.box]; rfl)

set_option maxRecDepth 100000 in
set_option maxHeartbeats 4000000 in
theorem rover_any (M : List Nd) (L : List It) (v : Rv) (i : Int) (w : World) (H : Rs M L v w) (R : Rel M L) (hn : 0 < M.length) (hM : M.length ≤ 1000000) (hL : L.length ≤ 1000000) :
    Calls Tryz.prog 96 #[rvV v, .int .i64 i] w fun e w' => e = .returned (.int .i64 (overI M i)) ∧ Below w.heap.size w w' := by
  have HH := Lib.hid H
  obtain ⟨gn, cn, al, cl, gc, cc, gd, cd, ga, ca, af, cf, rfl⟩ := H.at6 hn
  have HR := Lib.hid R
  have HF0 := Lib.hid (FIn.begin w ⟨.slice (some ⟨gn, 0, none⟩) M.length cn, .slice al L.length cl, .slice (some ⟨gc, 0, none⟩) M.length cc, .slice (some ⟨gd, 0, none⟩) M.length cd, .slice (some ⟨ga, 0, none⟩) M.length ca, .slice af (devL M 0).length cf⟩)
  clear H R
  cases hto : atM M i with
  | none =>
    have hno := Lib.hid (atM_none_dec hto)
    have HA := Lib.hid (show overI M i = i from by unfold overI; rw [hto])
    clear hto
    unfold rvV
    go_enter Tryz.func96, Tryz.ntmps96
    go_upto_region 1 with fail
    have hf := HF0.out
    dsimp only at hf
    generalize w.alloc (.cells #[.slice (some ⟨gn, 0, none⟩) M.length cn, .slice al L.length cl, .slice (some ⟨gc, 0, none⟩) M.length cc, .slice (some ⟨gd, 0, none⟩) M.length cd, .slice (some ⟨ga, 0, none⟩) M.length ca, .slice af (devL M 0).length cf] 31) = w2 at hf ⊢
    have HF := Lib.hid hf
    obtain ⟨s0, s1, s2, s3, s4, s5⟩ := hf.cells
    clear hf HF0
    go_wp2_with fail
    refine (refHas_any M L _ i _ (HH.out.keep HF.out.below)).mono ?_
    rintro e w3 ⟨rfl, hb3⟩
    rw [hno.out]
    have HB3 := Lib.hid (below_two HF.out.below hb3)
    clear hb3
    go_wp2_with fail
    go_ret
    exact ⟨ret_int HA.out.symm, HB3.out⟩
  | some x =>
    have hyes := Lib.hid (atM_some_dec hto)
    obtain ⟨j, hj, hx⟩ := atM_some hto
    subst hj
    have hjl : j < M.length := (List.getElem?_eq_some_iff.1 hx).1
    have HA := Lib.hid (show overI M (j : Int) = x.over from by unfold overI; rw [hto])
    have h0 := R_over HR.out hx
    have HX := Lib.hid hx
    clear hto hx
    unfold rvV
    go_enter Tryz.func96, Tryz.ntmps96
    go_upto_region 1 with fail
    have hf := HF0.out
    dsimp only at hf
    generalize w.alloc (.cells #[.slice (some ⟨gn, 0, none⟩) M.length cn, .slice al L.length cl, .slice (some ⟨gc, 0, none⟩) M.length cc, .slice (some ⟨gd, 0, none⟩) M.length cd, .slice (some ⟨ga, 0, none⟩) M.length ca, .slice af (devL M 0).length cf] 31) = w2 at hf ⊢
    have HF := Lib.hid hf
    obtain ⟨s0, s1, s2, s3, s4, s5⟩ := hf.cells
    clear hf HF0
    go_wp2_with fail
    refine (refHas_any M L _ (j : Int) _ (HH.out.keep HF.out.below)).mono ?_
    rintro e w3 ⟨rfl, hb3⟩
    rw [hyes.out]
    have HF3 := Lib.hid (HF.out.keep hb3)
    clear hb3 HF s0 s1 s2 s3 s4 s5
    obtain ⟨s0, s1, s2, s3, s4, s5⟩ := HF3.out.cells
    have HS3 := Lib.hid (HH.out.keep HF3.out.below)
    have n2 : w3.cell? ⟨gc, j, none⟩ = some (.int .i64 (cov j x)) := HS3.out.cov_cell HX.out
    unfold cov at n2
    by_cases ho : x.over = (j : Int)
    · rw [if_pos ho] at n2
      go_wp2_with fail
      go_ret
      exact ⟨ret_int (by rw [HA.out, ho]), HF3.out.below⟩
    · rw [if_neg ho] at n2
      have d1 : decide ((0 : Int) ≤ x.over) = true := decide_eq_true h0
      clear ho
      go_wp2_with fail
      go_ret
      exact ⟨ret_int HA.out.symm, HF3.out.below⟩

set_option maxRecDepth 100000 in
set_option maxHeartbeats 4000000 in
theorem rup_any (M : List Nd) (L : List It) (v : Rv) (i : Int) (w : World) (H : Rs M L v w) (R : Rel M L) (hn : 0 < M.length) (hM : M.length ≤ 1000000) (hL : L.length ≤ 1000000) :
    Calls Tryz.prog 95 #[rvV v, .int .i64 i] w fun e w' => e = .returned (.int .i64 (upI M i)) ∧ Below w.heap.size w w' := by
  have HH := Lib.hid H
  obtain ⟨gn, cn, al, cl, gc, cc, gd, cd, ga, ca, af, cf, rfl⟩ := H.at6 hn
  have HR := Lib.hid R
  have HF0 := Lib.hid (FIn.begin w ⟨.slice (some ⟨gn, 0, none⟩) M.length cn, .slice al L.length cl, .slice (some ⟨gc, 0, none⟩) M.length cc, .slice (some ⟨gd, 0, none⟩) M.length cd, .slice (some ⟨ga, 0, none⟩) M.length ca, .slice af (devL M 0).length cf⟩)
  clear H R
  cases hto : atM M i with
  | none =>
    have hno := Lib.hid (atM_none_dec hto)
    have HA := Lib.hid (show upI M i = -1 from by unfold upI; rw [hto])
    clear hto
    unfold rvV
    go_enter Tryz.func95, Tryz.ntmps95
    go_upto_region 1 with fail
    have hf := HF0.out
    dsimp only at hf
    generalize w.alloc (.cells #[.slice (some ⟨gn, 0, none⟩) M.length cn, .slice al L.length cl, .slice (some ⟨gc, 0, none⟩) M.length cc, .slice (some ⟨gd, 0, none⟩) M.length cd, .slice (some ⟨ga, 0, none⟩) M.length ca, .slice af (devL M 0).length cf] 31) = w2 at hf ⊢
    have HF := Lib.hid hf
    obtain ⟨s0, s1, s2, s3, s4, s5⟩ := hf.cells
    clear hf HF0
    go_wp2_with fail
    refine (refHas_any M L _ i _ (HH.out.keep HF.out.below)).mono ?_
    rintro e w3 ⟨rfl, hb3⟩
    rw [hno.out]
    have HB3 := Lib.hid (below_two HF.out.below hb3)
    clear hb3
    go_wp2_with fail
    go_ret
    exact ⟨ret_int HA.out.symm, HB3.out⟩
  | some x =>
    have hyes := Lib.hid (atM_some_dec hto)
    obtain ⟨j, hj, hx⟩ := atM_some hto
    subst hj
    have hjl : j < M.length := (List.getElem?_eq_some_iff.1 hx).1
    have HA := Lib.hid (show upI M (j : Int) = x.up from by unfold upI; rw [hto])
    have HX := Lib.hid hx
    clear hto hx
    unfold rvV
    go_enter Tryz.func95, Tryz.ntmps95
    go_upto_region 1 with fail
    have hf := HF0.out
    dsimp only at hf
    generalize w.alloc (.cells #[.slice (some ⟨gn, 0, none⟩) M.length cn, .slice al L.length cl, .slice (some ⟨gc, 0, none⟩) M.length cc, .slice (some ⟨gd, 0, none⟩) M.length cd, .slice (some ⟨ga, 0, none⟩) M.length ca, .slice af (devL M 0).length cf] 31) = w2 at hf ⊢
    have HF := Lib.hid hf
    obtain ⟨s0, s1, s2, s3, s4, s5⟩ := hf.cells
    clear hf HF0
    go_wp2_with fail
    refine (refHas_any M L _ (j : Int) _ (HH.out.keep HF.out.below)).mono ?_
    rintro e w3 ⟨rfl, hb3⟩
    rw [hyes.out]
    have HF3 := Lib.hid (HF.out.keep hb3)
    clear hb3 HF s0 s1 s2 s3 s4 s5
    obtain ⟨s0, s1, s2, s3, s4, s5⟩ := HF3.out.cells
    have HS3 := Lib.hid (HH.out.keep HF3.out.below)
    have n2 : w3.cell? ⟨ga, j, none⟩ = some (.int .i64 x.up) := HS3.out.up_cell HX.out
    go_wp2_with fail
    go_ret
    exact ⟨ret_int HA.out.symm, HF3.out.below⟩


theorem entsL_next {L : List It} {k : Nat} {y : It} (h : L[k]? = some y) (i : Int) : entsL (L.take (k + 1)) i = entsL (L.take k) i ++ if y.at_ = i then [(y.name, y.id)] else [] := by
  unfold entsL
  rw [List.take_add_one, h, List.filter_append, List.map_append]
  show _ ++ List.map _ (List.filter _ [y]) = _
  rw [List.filter_cons, List.filter_nil]
  by_cases q : y.at_ = i
  · rw [if_pos q, if_pos (by simpa using q)]; rfl
  · rw [if_neg q, if_neg (by simpa using q)]; rfl
theorem entsL_len (L : List It) (i : Int) : (entsL L i).length ≤ L.length := by
  unfold entsL
  rw [List.length_map]
  exact List.length_filter_le _ _
def ListRel (L : List It) (i : Int) (W : World) (v6 v7 : Value) (wr : World) : Prop :=
  ∃ k : Nat, k ≤ L.length ∧ v7 = .int .i64 (k : Int) ∧ Hid (Below W.heap.size W wr) ∧ Hid (wr.ownsRow W.heap.size 177 2 v6 (entsL (L.take k) i).length (entCells (entsL (L.take k) i)))

set_option maxRecDepth 100000 in
set_option maxHeartbeats 4000000 in
theorem rlist_any (M : List Nd) (L : List It) (v : Rv) (i : Int) (w : World) (H : Rs M L v w) (R : Rel M L) (hn : 0 < M.length) (hM : M.length ≤ 1000000) (hL : L.length ≤ 1000000) :
    Calls Tryz.prog 97 #[rvV v, .int .i64 i] w fun e w' => ∃ u, e = .returned (.tuple #[u, .int .i64 (listE M i)]) ∧ w'.ownsRow w.heap.size 177 2 u (listL M i).length (entCells (listL M i)) ∧ Below w.heap.size w w' := by
  have HH := Lib.hid H
  obtain ⟨gn, cn, al, cl, gc, cc, gd, cd, ga, ca, af, cf, rfl⟩ := H.at6 hn
  have HR := Lib.hid R
  have HF0 := Lib.hid (FIn.begin w ⟨.slice (some ⟨gn, 0, none⟩) M.length cn, .slice al L.length cl, .slice (some ⟨gc, 0, none⟩) M.length cc, .slice (some ⟨gd, 0, none⟩) M.length cd, .slice (some ⟨ga, 0, none⟩) M.length ca, .slice af (devL M 0).length cf⟩)
  clear H R
  cases hto : atM M i with
  | none =>
    have hno := Lib.hid (atM_none_dec hto)
    have HA := Lib.hid (show listL M i = [] ∧ listE M i = 2 from by unfold listL listE; rw [hto]; exact ⟨rfl, rfl⟩)
    clear hto
    unfold rvV
    go_enter Tryz.func97, Tryz.ntmps97
    go_upto_region 1 with fail
    have hf := HF0.out
    dsimp only at hf
    generalize w.alloc (.cells #[.slice (some ⟨gn, 0, none⟩) M.length cn, .slice al L.length cl, .slice (some ⟨gc, 0, none⟩) M.length cc, .slice (some ⟨gd, 0, none⟩) M.length cd, .slice (some ⟨ga, 0, none⟩) M.length ca, .slice af (devL M 0).length cf] 31) = w2 at hf ⊢
    have HF := Lib.hid hf
    obtain ⟨s0, s1, s2, s3, s4, s5⟩ := hf.cells
    clear hf HF0
    go_wp2_with fail
    refine (refHas_any M L _ i _ (HH.out.keep HF.out.below)).mono ?_
    rintro e w3 ⟨rfl, hb3⟩
    rw [hno.out]
    have HB3 := Lib.hid (below_two HF.out.below hb3)
    clear hb3
    go_wp2_with fail
    go_ret2
    exact ⟨_, (by rw [HA.out.2]; rfl), by rw [HA.out.1]; exact World.ownsRow_nil _ _ _ _, HB3.out⟩
  | some x =>
    have hyes := Lib.hid (atM_some_dec hto)
    obtain ⟨j, hj, hx⟩ := atM_some hto
    subst hj
    have hjl : j < M.length := (List.getElem?_eq_some_iff.1 hx).1
    have HA := Lib.hid (show listL M (j : Int) = (if x.kind = 2 then (if x.dead then [] else x.ents) else []) ∧ listE M (j : Int) = (if x.kind = 2 then (if x.dead then 8 else 0) else 3) from by unfold listL listE; rw [hto]; exact ⟨rfl, rfl⟩)
    have HX := Lib.hid hx
    clear hto hx
    unfold rvV
    go_enter Tryz.func97, Tryz.ntmps97
    go_upto_region 1 with fail
    have hf := HF0.out
    dsimp only at hf
    generalize w.alloc (.cells #[.slice (some ⟨gn, 0, none⟩) M.length cn, .slice al L.length cl, .slice (some ⟨gc, 0, none⟩) M.length cc, .slice (some ⟨gd, 0, none⟩) M.length cd, .slice (some ⟨ga, 0, none⟩) M.length ca, .slice af (devL M 0).length cf] 31) = w2 at hf ⊢
    have HF := Lib.hid hf
    obtain ⟨s0, s1, s2, s3, s4, s5⟩ := hf.cells
    clear hf HF0
    go_wp2_with fail
    refine (refHas_any M L _ (j : Int) _ (HH.out.keep HF.out.below)).mono ?_
    rintro e w3 ⟨rfl, hb3⟩
    rw [hyes.out]
    have HF3 := Lib.hid (HF.out.keep hb3)
    clear hb3 HF s0 s1 s2 s3 s4 s5
    obtain ⟨s0, s1, s2, s3, s4, s5⟩ := HF3.out.cells
    have HS3 := Lib.hid (HH.out.keep HF3.out.below)
    have n2 : w3.cell? ⟨gn, j * 13 + 2, none⟩ = some (.int .i64 x.kind) := HS3.out.node_cell HX.out (by omega) rfl
    have n3 : w3.cell? ⟨gd, j, none⟩ = some (.bool x.dead) := HS3.out.dead_cell HX.out
    by_cases hk : x.kind = 2
    · have b1 : (x.kind != 2) = false := by simp [hk]
      have HA2 := HA.out
      rw [if_pos hk, if_pos hk] at HA2
      have HA3 := Lib.hid HA2
      clear HA HA2 hk
      cases hd : x.dead with
      | true =>
        rw [hd] at n3
        have HA4 := Lib.hid (show listL M (j : Int) = [] ∧ listE M (j : Int) = 8 from by rw [HA3.out.1, HA3.out.2, hd]; exact ⟨rfl, rfl⟩)
        clear hd HA3
        go_wp2_with fail
        go_ret2
        exact ⟨_, (by rw [HA4.out.2]; rfl), by rw [HA4.out.1]; exact World.ownsRow_nil _ _ _ _, HF3.out.below⟩
      | false =>
        rw [hd] at n3
        have HA4 := Lib.hid (show listL M (j : Int) = entsL L (j : Int) ∧ listE M (j : Int) = 0 from by rw [HA3.out.1, HA3.out.2, hd]; exact ⟨(HR.out.ents j x HX.out), rfl⟩)
        clear hd HA3
        obtain ⟨i0, hi0, hz0, hz1, hz2⟩ := info_parts infoEnt
        go_wp2_with fail
        go_loopw [6, 7] (ListRel L (j : Int) w3) (fun _ v _ => L.length - (intOf v).toNat)
        case atStart => exact ⟨0, Nat.zero_le _, rfl, Lib.hid (Below.refl _ _), Lib.hid (World.ownsRow_nil _ _ _ _)⟩
        case round =>
          obtain ⟨k, hk, rfl, HB, HO⟩ := hrel
          have hsz := HB.out.size
          clear s0 s1 s2 s3 s4 s5 n2 n3
          obtain ⟨s0, s1, s2, s3, s4, s5⟩ := (HF3.out.keep HB.out).cells
          by_cases hlt : k < L.length
          · have d1 : decide ((k : Int) < (L.length : Int)) = true := decide_eq_true (by omega)
            obtain ⟨y, hy⟩ : ∃ y, L[k]? = some y := ⟨_, List.getElem?_eq_getElem hlt⟩
            obtain ⟨gl, rfl, m1, m2, m3⟩ := (HH.out.keep (below_two HF3.out.below HB.out)).item_cell hy
            have HNX := Lib.hid (entsL_next hy (j : Int))
            have hle := entsL_len (L.take k) (j : Int)
            rw [List.length_take, Nat.min_eq_left hk] at hle
            have HM := Lib.hid (show (entsL (L.take k) (j : Int)).length + 1 ≤ maxLen from by unfold maxLen; omega)
            have hle' : (entsL (L.take k) (j : Int)).length ≤ 1000000 := by omega
            clear hy hle
            by_cases ha : y.at_ = (j : Int)
            · have b2 : (y.at_ == (j : Int)) = true := by simp [ha]
              have HNY := Lib.hid (show entsL (L.take (k + 1)) (j : Int) = entsL (L.take k) (j : Int) ++ [(y.name, y.id)] from by rw [HNX.out, if_pos ha])
              clear ha HNX
              go_wp2_with (at_builtin; (refine wpList_append_own _ rfl (.tmp 39) (.tmp 46) 133 rfl w3.heap.size 177 i0 _ 2 24 Tryz.underlying133 hi0 hz0 hz1 hz2 rfl (by decide) _ _ _ rfl (HO.out.alloc _) ⟨wr.heap.size, 0, none⟩ 1 1 [.string y.name, .int .i64 y.id] rfl rfl (World.news_of_block (heap_alloc_new _ _)) (by intro u hu; simp at hu; rcases hu with rfl | rfl <;> rfl) HM.out (by omega) (by simp; omega) ?_; intro v1 w1 hown1 hgrow hnil))
              have RR := Lib.hid (show ListRel L (j : Int) w3 v1 (.int .i64 ((k : Int) + 1)) w1 from ⟨k + 1, by omega, by simp, Lib.hid ((HB.out.alloc hsz _).grown hgrow (by simp; omega) (fun q hq => (HO.out.lt q hq).1)), Lib.hid (by
                rw [HNY.out, List.length_append, entCells_append]
                exact hown1)⟩)
              clear hown1 hgrow hnil
              go_roundw
              case rel => exact RR.out
              case measure => simp [intOf]; omega
            · have b2 : (y.at_ == (j : Int)) = false := by simp [ha]
              have HNY := Lib.hid (show entsL (L.take (k + 1)) (j : Int) = entsL (L.take k) (j : Int) from by rw [HNX.out, if_neg ha, List.append_nil])
              clear ha HNX
              go_wp2_with fail
              go_roundw
              case rel => exact ⟨k + 1, by omega, by simp, HB, Lib.hid (by rw [HNY.out]; exact HO.out)⟩
              case measure => simp [intOf]; omega
          · have d1 : decide ((k : Int) < (L.length : Int)) = false := decide_eq_false (by omega)
            have HE := Lib.hid (show entsL (L.take k) (j : Int) = entsL L (j : Int) from by rw [List.take_of_length_le (by omega)])
            go_wp2_with fail
            go_ret2
            exact ⟨_, (by rw [HA4.out.2]; rfl), by rw [HA4.out.1, ← HE.out]; exact owns_lower HO.out HF3.out.below.size, below_two HF3.out.below HB.out⟩
    · have b1 : (x.kind != 2) = true := by simp [hk]
      have HA2 := HA.out
      rw [if_neg hk, if_neg hk] at HA2
      have HA3 := Lib.hid HA2
      clear HA HA2 hk
      go_wp2_with fail
      go_ret2
      exact ⟨_, (by rw [HA3.out.2]; rfl), by rw [HA3.out.1]; exact World.ownsRow_nil _ _ _ _, HF3.out.below⟩


end Go.Proofs.YtknfhphhcnbndaaGreatDoor.V
