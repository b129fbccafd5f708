/-
  That the law RoamOver returns true. Conditions: the table of classes lies as its text lays it; what came in lies in memory.
-/
import Derived.Test.YtcjbnjoomgagjaaGreatDoorKGQuiet
import Derived.Test.YtcjbnjoomgagjaaGreatDoorKGSteps
set_option linter.unusedVariables false
set_option linter.unusedSimpArgs false
namespace Go.Proofs.YtcjbnjoomgagjaaGreatDoor.G
open Go.RowKit

def nms (l : List ByteArray) : List Value := l.map Value.string
theorem nms_len (l : List ByteArray) : (nms l).length = l.length := by unfold nms; rw [List.length_map]
theorem nms_app (a b : List ByteArray) : nms (a ++ b) = nms a ++ nms b := by unfold nms; rw [List.map_append]
theorem nms_at {l : List ByteArray} {k : Nat} {s : ByteArray} (h : l[k]? = some s) : (nms l)[k]? = some (.string s) := by unfold nms; rw [List.getElem?_map, h]; rfl
theorem nms_one (l : List ByteArray) : ∀ y ∈ nms l, y.oneCell' = true := fun y hy => by
  obtain ⟨s, _, rfl⟩ := List.mem_map.1 hy
  rfl
theorem nms_front {w : World} {g n cap : Nat} {S0 : List ByteArray} {s : ByteArray} (h : w.ownsRow 0 9 1 (.slice (some ⟨g, 0, none⟩) (n + 1) cap) (n + 1) (nms (S0 ++ [s]))) (hn : S0.length = n) : w.ownsRow 0 9 1 (.slice (some ⟨g, 0, none⟩) n cap) n (nms S0) ∧ n + 1 ≤ cap := by
  rcases h.2 with ⟨hv, h0⟩ | ⟨g', cap', cur, hv, hB, hg, hnc, hcm, hcs, ht⟩
  · omega
  · simp only [Value.slice.injEq] at hv
    obtain ⟨hv1, _, rfl⟩ := hv
    refine ⟨⟨by rw [nms_len]; omega, .inr ⟨g', cap, cur, by rw [hv1], hB, hg, by omega, hcm, hcs, ?_⟩⟩, hnc⟩
    have e2 := congrArg (List.take (n * 1)) ht
    rw [List.take_take, Nat.min_eq_left (by omega), nms_app, List.take_append_of_le_length (by rw [nms_len]; omega), List.take_of_length_le (show (nms S0).length ≤ n * 1 by rw [nms_len]; omega)] at e2
    exact e2
theorem stepO_over {dir : Int → Bool} {m : Int} {A : List Vis} {j : Nat} {S S1 : List ByteArray} {x : Vis} (h : A[j]? = some x) (ho : x.over = true) (hs : stepO dir m A j S = some S1) : S = S1 ++ [x.name] ∧ x.depth = (S1.length : Int) := by
  unfold stepO at hs
  rw [h] at hs
  dsimp only at hs
  rw [if_pos ho] at hs
  cases hl : S.getLast? with
  | none => rw [hl] at hs; cases hs
  | some s =>
    obtain ⟨ys, rfl⟩ := List.getLast?_eq_some_iff.1 hl
    rw [hl] at hs
    dsimp only at hs
    split at hs
    · rename_i q
      obtain rfl := Option.some.inj hs
      rw [List.dropLast_concat]
      refine ⟨by rw [q.1], ?_⟩
      rw [q.2, List.length_append, List.length_singleton]
      omega
    · cases hs
theorem stepO_err {dir : Int → Bool} {m : Int} {A : List Vis} {j : Nat} {S S1 : List ByteArray} {x : Vis} (h : A[j]? = some x) (ho : x.over = false) (he : x.err ≠ 0) (hs : stepO dir m A j S = some S1) : S1 = S ∧ ∃ j' u, j = j' + 1 ∧ A[j']? = some u ∧ u.name = x.name ∧ u.over = false := by
  unfold stepO at hs
  rw [h] at hs
  dsimp only at hs
  rw [if_neg (by rw [ho]; decide), if_pos he] at hs
  split at hs
  · cases hs
  · rename_i h0
    obtain ⟨j', rfl⟩ : ∃ j', j = j' + 1 := ⟨j - 1, by omega⟩
    rw [show j' + 1 - 1 = j' by omega] at hs
    cases hu : A[j']? with
    | none => rw [hu] at hs; cases hs
    | some u =>
      rw [hu] at hs
      dsimp only at hs
      split at hs
      · rename_i q
        exact ⟨(Option.some.inj hs).symm, j', u, rfl, hu, q.1, q.2⟩
      · cases hs
theorem stepO_vis {dir : Int → Bool} {m : Int} {A : List Vis} {j : Nat} {S S1 : List ByteArray} {x : Vis} (h : A[j]? = some x) (ho : x.over = false) (he : x.err = 0) (hs : stepO dir m A j S = some S1) : x.depth = (S.length : Int) ∧ (dir x.id = true ∧ deepB m x.depth = true ∧ ¬ failB A j x → S1 = S ++ [x.name]) ∧ (¬ (dir x.id = true ∧ deepB m x.depth = true ∧ ¬ failB A j x) → S1 = S) := by
  unfold stepO at hs
  rw [h] at hs
  dsimp only at hs
  rw [if_neg (by rw [ho]; decide), if_neg (fun q => q he)] at hs
  split at hs
  · cases hs
  · rename_i hd
    refine ⟨Classical.not_not.1 hd, ?_⟩
    split at hs
    · rename_i q
      exact ⟨fun _ => (Option.some.inj hs).symm, fun q2 => absurd q q2⟩
    · rename_i q
      exact ⟨fun q2 => absurd q2 q, fun _ => (Option.some.inj hs).symm⟩
theorem dir_noerr {M : List V.Nd} {u g id : Int} {all : Bool} (h : (treeM M u g all).dir id = true) : V.nodeEr M id = 0 := by
  obtain ⟨k, n, rfl, hn, _, ha⟩ := kind_at (of_decide_eq_true h)
  unfold V.nodeEr
  rw [ha]
theorem infoStr : (Tryz.prog.info? 9).map (fun i => (i.zero, i.size, i.bytes)) = some (some (.string ⟨#[]⟩), 1, 16) := by kernel_rfl
theorem cut_then {P : Program} {s : Code} {Q : Exit → Act → World → Prop} {a : Act} {w : World} {F : Act → World → Prop} (h : ∀ K : Act → World → Prop, (∀ a w, F a w → K a w) → s.wp P (Exit.then K Q) a w) : s.wp P (Exit.then F Q) a w := h F (fun _ _ h => h)
def OvRel (A : List Vis) (dir : Int → Bool) (m : Int) (W : World) (v6 v7 : Value) (wr : World) : Prop :=
  ∃ (j : Nat) (S : List ByteArray), v7 = .int .i64 (j : Int) ∧ j ≤ A.length ∧ S.length ≤ j ∧ Hid (StepsO dir m A j S A.length []) ∧ Hid (wr.ownsRow 0 9 1 v6 S.length (nms S)) ∧ Hid (Below W.heap.size W wr)
set_option maxRecDepth 100000 in
set_option maxHeartbeats 16000000 in
theorem over_any (cs : List V.Chg) (a : Option Addr) (cap : Nat) (u g i : Int) (s : ByteArray) (m : Int) (fo : Bool) (w : World) (H : V.IsChgs w a cs) (ht : P.Tab w) (hl : cs.length ≤ 9223372036854775807) (hz : ∀ c ∈ cs, (c.name.size ≤ 9223372036854775807 ∧ c.text.size ≤ 9223372036854775807) ∧ -9223372036854775808 ≤ c.n ∧ c.n ≤ 9223372036854775807) :
    Calls Tryz.prog 6 #[askedV a cs.length cap u g i s m fo] w fun e w' => e = .returned (.bool true) ∧ Below w.heap.size w w' := by
  have HFw := Lib.hid (fun (W : World) (hb : Below w.heap.size w W) => askedFew_any cs a cap u g i s m fo 50 W (H.keep hb) hl (fun c hc => (hz c hc).1))
  have HMd := Lib.hid (fun (W : World) (hb : Below w.heap.size w W) (h4 : cs.length ≤ 400) (hf : V.FewL cs) => V.made_any cs a cap W (H.keep hb) h4 hf (fun c hc => (hz c hc).2))
  have HT := Lib.hid ht
  clear H hz ht
  unfold askedV at HFw ⊢
  go_enter Tryz.func6, Tryz.ntmps6
  go_upto_region 1 with fail
  have HB0 := Lib.hid (show Below w.heap.size w (w.alloc (.cells #[.slice a cs.length cap, .int .i64 u, .int .i64 g, .int .i64 i, .string s, .int .i64 m, .bool fo] 26)) from (Below.refl _ _).alloc (Nat.le_refl _) _)
  have HX0 := Lib.hid (heap_alloc_new w (.cells #[.slice a cs.length cap, .int .i64 u, .int .i64 g, .int .i64 i, .string s, .int .i64 m, .bool fo] 26))
  generalize w.alloc (.cells #[.slice a cs.length cap, .int .i64 u, .int .i64 g, .int .i64 i, .string s, .int .i64 m, .bool fo] 26) = w0 at HB0 HX0 ⊢
  have HCl := Lib.hid (show ∀ W, Below w0.heap.size w0 W → W.cell? ⟨w.heap.size, 0, none⟩ = some (.slice a cs.length cap) ∧ W.cell? ⟨w.heap.size, 1, none⟩ = some (.int .i64 u) ∧ W.cell? ⟨w.heap.size, 2, none⟩ = some (.int .i64 g) ∧ W.cell? ⟨w.heap.size, 3, none⟩ = some (.int .i64 i) ∧ W.cell? ⟨w.heap.size, 4, none⟩ = some (.string s) ∧ W.cell? ⟨w.heap.size, 5, none⟩ = some (.int .i64 m) ∧ W.cell? ⟨w.heap.size, 6, none⟩ = some (.bool fo) from fun W hW => by
    have q := (hW.block _ (B.heap_lt HX0.out)).trans HX0.out
    refine ⟨?_, ?_, ?_, ?_, ?_, ?_, ?_⟩ <;> (rw [cell_of_row _ _ _ _ _ _ q]; rfl))
  go_wp2_with fail
  refine (awoken_any _ (HT.out.keep HB0.out)).mono ?_
  rintro e w2 ⟨rfl, hb2⟩
  have HB2 := Lib.hid hb2
  clear hb2
  obtain ⟨c0, c1, c2, c3, c4, c5, c6⟩ := HCl.out _ HB2.out
  go_wp2_with fail
  refine (HFw.out _ (V.below_two HB0.out HB2.out)).mono ?_
  rintro e w3 ⟨b, rfl, hb, hb3⟩
  have HBb := Lib.hid hb
  have HB3 := Lib.hid (V.below_two HB2.out hb3)
  clear hb hb3 c0 c1 c2 c3 c4 c5 c6
  obtain ⟨c0, c1, c2, c3, c4, c5, c6⟩ := HCl.out _ HB3.out
  cases b with
  | false =>
    go_wp2_with fail
    refine (awoken_any _ (HT.out.keep (V.below_two HB0.out HB3.out))).mono ?_
    rintro e w4 ⟨rfl, hb4⟩
    have HB4 := Lib.hid (V.below_two (V.below_two HB0.out HB3.out) hb4)
    clear hb4
    go_wp2_with fail
    go_ret
    exact ⟨rfl, HB4.out⟩
  | true =>
    obtain ⟨⟨f1, f2⟩, f3⟩ := HBb.out.1 rfl
    have HFL := Lib.hid f1
    have HS3 := Lib.hid (show s.size ≤ 300 from f3)
    have hcl : cs.length ≤ 400 := by omega
    clear f1 f2 f3 HBb HFw
    have HM := Lib.hid (HMd.out _ (V.below_two HB0.out HB3.out) hcl HFL.out)
    have HG := Lib.hid (good_run cs hcl)
    generalize V.runM cs V.newM = M at HM HG
    go_upto_region 3 with fail
    go_wp2_with fail
    refine HM.out.mono ?_
    rintro e w4 ⟨p, r, L, rfl, T4, l4⟩
    have HR4 := Lib.hid T4.rs
    have HRel := Lib.hid T4.rel
    have HF4 := Lib.hid T4.fs
    have HN4 := Lib.hid (V.rs_one T4.rs)
    have HB4 := Lib.hid (V.below_two HB3.out T4.fs.below)
    have hL4 : L.length ≤ 1000000 := by omega
    clear T4 HM HMd c0 c1 c2 c3 c4 c5 c6 l4 HFL
    go_upto_region 4 with (refine wpList_store_row rfl 35 (.tmp 4) (.tmp 26) rfl w4.heap.size #[r.n, r.l, r.c, r.d, r.a, r.f] rfl rfl 35 V.nilsR (heap_alloc_new _ _) V.sizeRef rfl HN4.out ?_; rw [World.setRow_alloc_new])
    have HA5 := Lib.hid (show Below w4.heap.size w4 (w4.alloc (.cells #[r.n, r.l, r.c, r.d, r.a, r.f] 35)) from (Below.refl _ _).alloc (Nat.le_refl _) _)
    have HX5 := Lib.hid (heap_alloc_new w4 (.cells #[r.n, r.l, r.c, r.d, r.a, r.f] 35))
    generalize w4.alloc (.cells #[r.n, r.l, r.c, r.d, r.a, r.f] 35) = w5 at HA5 HX5 ⊢
    have HF5 := Lib.hid (HF4.out.keep HA5.out)
    have HR5 := Lib.hid (HR4.out.keep HA5.out)
    have HB5 := Lib.hid (V.below_two HB4.out HA5.out)
    have HBw := Lib.hid (V.below_two HB0.out HB5.out)
    have HT5 := Lib.hid (HT.out.keep HBw.out)
    generalize w4.heap.size = B4 at HX5 ⊢
    clear HF4 HR4 HN4 HA5 HB4 HX0
    have HWa := Lib.hid (walkM_any u g fo HF5.out HT5.out HG.out m i s HS3.out)
    have HTl := Lib.hid (tel_any u g fo HF5.out HT5.out HG.out)
    have HNo := Lib.hid (fun (id : Int) => dir_noerr (M := M) (u := u) (g := g) (id := id) (all := fo))
    have HSt := Lib.hid (show StepsO (treeM M u g fo).dir m (walkL (treeM M u g fo) (V.nodeEr M) m i s) 0 [] (walkL (treeM M u g fo) (V.nodeEr M) m i s).length [] from by
      unfold walkL
      split
      · have q := walk_steps (treeM M u g fo) m (wkV (treeM M u g fo) m (firstV i s)) 101 (firstV i s) 0 [] rfl rfl rfl (by show (100 : Int) ≤ (101 : Int) + 0; omega) (fun k x hx => by rw [Nat.zero_add]; exact hx)
        rw [Nat.zero_add] at q
        exact q
      · exact .here 0 [])
    have HAl := Lib.hid (show (walkL (treeM M u g fo) (V.nodeEr M) m i s).length ≤ 200000 from by
      unfold walkL
      split
      · have := (HG.out.walk u g fo m (firstV i s) 101).1
        show (walkV (treeM M u g fo) m 101 (firstV i s)).length ≤ _
        omega
      · exact Nat.zero_le _)
    unfold WalkP at HWa
    unfold P.credV at HWa
    generalize walkL (treeM M u g fo) (V.nodeEr M) m i s = A at HWa HSt HAl
    generalize treeM M u g fo = T at HTl HNo HSt
    obtain ⟨c0, c1, c2, c3, c4, c5, c6⟩ := HCl.out _ HB5.out
    go_wp2_with fail
    refine HWa.out.mono ?_
    rintro e w6 ⟨va, rfl, ho, hb6⟩
    have HB6 := Lib.hid hb6
    have HOa := Lib.hid (owns_lower ho (Nat.zero_le _))
    clear ho hb6 c0 c1 c2 c3 c4 c5 c6 HWa
    obtain ⟨aa, la, ha⟩ := B.owns_form HOa.out
    subst ha
    have hAl : A.length ≤ 200000 := HAl.out
    go_wp2_with fail
    go_loopw [6, 7] (OvRel A T.dir m w6) (fun _ v _ => A.length - (intOf v).toNat)
    case atStart => exact ⟨0, [], rfl, Nat.zero_le _, Nat.le_refl _, HSt, Lib.hid (World.ownsRow_nil _ _ _ _), Lib.hid (Below.refl _ _)⟩
    case round =>
      obtain ⟨j, S, rfl, hj, hSj, HSs, HOs, HBr⟩ := hrel
      by_cases hlt : j < A.length
      · have dj : decide ((j : Int) < (A.length : Int)) = true := decide_eq_true (by omega)
        obtain ⟨x, hx⟩ : ∃ x, A[j]? = some x := ⟨_, List.getElem?_eq_getElem hlt⟩
        have HX := Lib.hid hx
        obtain ⟨ga, l2, hv, _, _⟩ := B.owns_some HOa.out (by omega)
        simp only [Value.slice.injEq] at hv
        obtain ⟨rfl, _, rfl⟩ := hv
        obtain ⟨S1, hs1, hs2⟩ := HSs.out.next hlt
        have HS1 := Lib.hid hs1
        have HS2 := Lib.hid hs2
        have HRx := Lib.hid (fun W (hb : Below wr.heap.size wr W) => range_vis (V.owns_keep HOa.out (V.below_two HBr.out hb)) HX.out)
        obtain ⟨os, sc, hv⟩ := B.owns_form HOs.out
        subst hv
        clear hx hs1 hs2
        go_upto_region 9 with fail
        go_upto_region 10 with (first
          | (refine wpList_load_mid rfl 42 (.tmp 47) rfl ga (j * 7) rfl (visC x) _ (HRx.out _ (Below.refl _ _)) Tryz.underlying42 rfl sizeVis' ?_)
          | (refine wpList_store_row rfl 42 (.tmp 8) (.tmp 48) rfl wr.heap.size (visC x).toArray rfl rfl 42 _ (heap_alloc_new _ _) sizeVis' rfl (all_oneCell_toArray (visC_one _)) ?_; rw [World.setRow_alloc_new]))
        have HB1 := Lib.hid ((Below.refl wr.heap.size wr).alloc (Nat.le_refl _) (.cells (visC x).toArray 42))
        have HX1 := Lib.hid (heap_alloc_new wr (.cells (visC x).toArray 42))
        generalize wr.alloc (.cells (visC x).toArray 42) = w1 at HB1 HX1 ⊢
        generalize wr.heap.size = b8 at HX1 ⊢
        have HCx := Lib.hid (show ∀ W, Below w1.heap.size w1 W → W.cell? ⟨b8, 0, none⟩ = some (.int .i64 x.id) ∧ W.cell? ⟨b8, 1, none⟩ = some (.int .i64 x.depth) ∧ W.cell? ⟨b8, 2, none⟩ = some (.string x.name) ∧ W.cell? ⟨b8, 5, none⟩ = some (.bool x.over) ∧ W.cell? ⟨b8, 6, none⟩ = some (.int .i64 x.err) from fun W hW => by
          have q := (hW.block _ (B.heap_lt HX1.out)).trans HX1.out
          refine ⟨?_, ?_, ?_, ?_, ?_⟩ <;> (rw [cell_of_row _ _ _ _ _ _ q]; rfl))
        obtain ⟨x0, x1, x2, x5, x6⟩ := HCx.out w1 (Below.refl _ _)
        cases ho : x.over with
        | true =>
          obtain ⟨hS, hd⟩ := stepO_over HX.out ho HS1.out
          subst hS
          rw [ho] at x5
          have hln : (S1 ++ [x.name]).length = S1.length + 1 := by rw [List.length_append, List.length_singleton]
          rw [hln] at HOs hSj ⊢
          obtain ⟨gs, sc2, hv, _, _⟩ := B.owns_some HOs.out (by omega)
          simp only [Value.slice.injEq] at hv
          obtain ⟨rfl, _, rfl⟩ := hv
          have HFr := Lib.hid (nms_front HOs.out rfl)
          have hcap : S1.length + 1 ≤ sc := HFr.out.2
          have s0 : w1.cell? ⟨gs, S1.length, none⟩ = some (.string x.name) := by
            have q := B.owns_cell (B.owns_to HOs.out HB1.out) (nms_at (l := S1 ++ [x.name]) (s := x.name) (by rw [List.getElem?_append_right (Nat.le_refl _), Nat.sub_self]; rfl))
            exact q
          have d0 : ((S1.length : Int) + 1 == 0) = false := beq_eq_false_iff_ne.2 (by omega)
          have hw0 : IntKind.i64.wrap (S1.length : Int) = (S1.length : Int) := IntWalk.i64_in _ (by omega)
          have dd : (x.depth != (S1.length : Int)) = false := by rw [hd]; simp
          clear hln hd
          go_upto_region 11 with fail
          go_quiet (fail)
          clear x0 x1 x2 x5 x6 s0
          go_wp2_with fail
          go_roundw
          case rel => exact ⟨j + 1, S1, by simp, by omega, by omega, HS2, Lib.hid (B.owns_to HFr.out.1 (drewn_below HB1.out)), Lib.hid (drewn_below (V.below_two HBr.out HB1.out))⟩
          case measure => simp [intOf]; omega
        | false =>
          rw [ho] at x5
          by_cases he : x.err = 0
          · obtain ⟨hd, hp1, hp2⟩ := stepO_vis HX.out ho he HS1.out
            have HP1 := Lib.hid hp1
            have HP2 := Lib.hid hp2
            have dd : (x.depth != (S.length : Int)) = false := by rw [hd]; simp
            have HNd := Lib.hid (HTl.out.node x.id w1 (V.below_two HB6.out (V.below_two HBr.out HB1.out)))
            obtain ⟨fl, hfl⟩ : ∃ fl : Bool, (fl = true ↔ failB A j x) := by
              by_cases h : failB A j x
              · exact ⟨true, by simp [h]⟩
              · exact ⟨false, by simp [h]⟩
            have HFl := Lib.hid hfl
            have HFz := Lib.hid hfl
            rw [he] at x6
            clear hp1 hp2 hd hfl
            go_wp2_with fail
            refine HNd.out.mono ?_
            rintro e w8 ⟨n, rfl, hk, hb8⟩
            have HK := Lib.hid hk
            have HB8 := Lib.hid (V.below_two HB1.out hb8)
            have HC8 := Lib.hid (HCx.out w8 hb8)
            have HE8 := Lib.hid (HNo.out x.id)
            generalize V.nodeEr M x.id = er at HE8 ⊢
            clear hk x0 x1 x2 x5 x6 HNd
            unfold P.nodeV
            go_upto_region 20 with (refine wpList_store_row rfl 55 (.tmp 9) (.tmp 112) rfl w8.heap.size (nodeC n) rfl rfl 55 _ (heap_alloc_new _ _) sizeNode rfl (nodeC_one n) ?_; rw [World.setRow_alloc_new])
            have HB9 := Lib.hid ((Below.refl w8.heap.size w8).alloc (Nat.le_refl _) (.cells (nodeC n) 55))
            have HX9 := Lib.hid (heap_alloc_new w8 (.cells (nodeC n) 55))
            generalize w8.alloc (.cells (nodeC n) 55) = w9 at HB9 HX9 ⊢
            generalize w8.heap.size = b9 at HX9 ⊢
            have HBz := Lib.hid (show Below w1.heap.size w1 w9 from V.below_two hb8 HB9.out)
            obtain ⟨x0, x1, x2, x5, x6⟩ := HCx.out w9 HBz.out
            have k2 : w9.cell? ⟨b9, 2, none⟩ = some (.int .i64 n.kind) := by rw [cell_of_row _ _ _ _ _ _ HX9.out]; rfl
            have m5 := (HCl.out w9 (V.below_two HB5.out (V.below_two HB6.out (V.below_two HBr.out (V.below_two HB1.out HBz.out))))).2.2.2.2.2.1
            first | refine cut_then (fun K hK => ?_) | (refine wp_seq ?_; refine cut_then (fun K hK => ?_))
            go_cut [11] from 114 to 124 (fun a wx => a = .bool (decide (m < 0) || decide (x.depth < m)) ∧ Hid (wx = w9))
            case first =>
              by_cases hm : m < 0
              · have d1 : decide (m < 0) = true := decide_eq_true hm
                go_wp2_with fail
                go_meet
                exact ⟨by rw [d1]; rfl, Lib.hid rfl⟩
              · have d1 : decide (m < 0) = false := decide_eq_false hm
                go_wp2_with fail
                go_meet
                exact ⟨by rw [d1]; rfl, Lib.hid rfl⟩
            case rest =>
              obtain ⟨rfl, hwx⟩ := hcut
              have e2 := hwx.out.symm
              subst e2
              clear hwx
              refine hK _ _ ?_
              clear hK K
              try dsimp only
              obtain ⟨dp, hdp⟩ : ∃ dp, (decide (m < 0) || decide (x.depth < m)) = dp := ⟨_, rfl⟩
              have HDp := Lib.hid (show deepB m x.depth = (dp && decide (x.depth < 100)) from by rw [← hdp]; rfl)
              rw [hdp]
              clear hdp
              go_upto_region 21 with fail
              first | refine cut_then (fun K hK => ?_) | (refine wp_seq ?_; refine cut_then (fun K hK => ?_))
              go_cut [12] from 124 to 160 (fun a wx => a = .bool fl ∧ Hid (∃ q, wx = w9.drewN q))
              case first =>
                by_cases hj1 : j + 1 < A.length
                · have dj1 : decide ((j : Int) + 1 < (A.length : Int)) = true := decide_eq_true (by omega)
                  obtain ⟨y, hy⟩ : ∃ y, A[j + 1]? = some y := ⟨_, List.getElem?_eq_getElem hj1⟩
                  have hRy := range_vis (V.owns_keep HOa.out (V.below_two HBr.out (V.below_two HB1.out HBz.out))) hy
                  have y6 : w9.cell? ⟨ga, (j + 1) * 7 + 6, none⟩ = some (.int .i64 y.err) := hRy 6 _ rfl
                  have y2 : w9.cell? ⟨ga, (j + 1) * 7 + 2, none⟩ = some (.string y.name) := hRy 2 _ rfl
                  have y1 : w9.cell? ⟨ga, (j + 1) * 7 + 1, none⟩ = some (.int .i64 y.depth) := hRy 1 _ rfl
                  have HFy := Lib.hid (show fl = true ↔ y.err ≠ 0 ∧ y.name = x.name ∧ y.depth = x.depth from HFl.out.trans ⟨fun ⟨u, h1, h2⟩ => by rw [hy] at h1; obtain rfl := Option.some.inj h1; exact h2, fun h => ⟨y, hy, h⟩⟩)
                  clear hy hRy
                  by_cases he1 : y.err = 0
                  · have d1 : (y.err != 0) = false := by rw [he1]; rfl
                    have hf : fl = false := by rw [Bool.eq_false_iff]; exact fun q => (HFy.out.1 q).1 he1
                    go_quiet (fail)
                    try go_wp2_with fail
                    go_meet
                    exact ⟨by rw [hf], Lib.hid ⟨nq, rfl⟩⟩
                  · have d1 : (y.err != 0) = true := by rw [bne_iff_ne]; exact he1
                    by_cases he2 : y.name = x.name
                    · rw [he2] at y2
                      by_cases he3 : y.depth = x.depth
                      · have hf : fl = true := HFy.out.2 ⟨he1, he2, he3⟩
                        rw [he3] at y1
                        go_quiet (fail)
                        try go_wp2_with fail
                        go_meet
                        exact ⟨by rw [hf], Lib.hid ⟨nq, rfl⟩⟩
                      · have d3 : (y.depth == x.depth) = false := beq_eq_false_iff_ne.2 he3
                        have hf : fl = false := by rw [Bool.eq_false_iff]; exact fun q => he3 (HFy.out.1 q).2.2
                        go_quiet (fail)
                        try go_wp2_with fail
                        go_meet
                        exact ⟨by rw [hf], Lib.hid ⟨nq, rfl⟩⟩
                    · have d2 : (y.name.toList == x.name.toList) = false := by
                        rw [beq_eq_false_iff_ne]
                        intro q
                        exact he2 (ByteArray.ext (Array.toList_inj.1 (by rw [← Go.Lib.toList_data, ← Go.Lib.toList_data]; exact q)))
                      have hf : fl = false := by rw [Bool.eq_false_iff]; exact fun q => he2 (HFy.out.1 q).2.1
                      go_quiet (fail)
                      try go_wp2_with fail
                      go_meet
                      exact ⟨by rw [hf], Lib.hid ⟨nq, rfl⟩⟩
                · have dj1 : decide ((j : Int) + 1 < (A.length : Int)) = false := decide_eq_false (by omega)
                  have hf : fl = false := by
                    rw [Bool.eq_false_iff]
                    intro q
                    obtain ⟨u, h1, _⟩ := HFl.out.1 q
                    exact hj1 (List.getElem?_eq_some_iff.1 h1).1
                  go_quiet (fail)
                  try go_wp2_with fail
                  go_meet
                  exact ⟨by rw [hf], Lib.hid ⟨nq, rfl⟩⟩
              case rest =>
                obtain ⟨rfl, hwx⟩ := hcut
                obtain ⟨qz, hqz⟩ := hwx.out
                subst hqz
                refine hK _ _ ?_
                clear hK K hwx
                try dsimp only
                have HBq := Lib.hid (show Below w1.heap.size w1 (w9.drewN qz) from drewn_below HBz.out)
                have HXq := Lib.hid (show (w9.drewN qz).heap[b9]? = some (.cells (nodeC n) 55 (0, 0)) from HX9.out)
                clear x0 x1 x2 x5 x6 k2 m5 HX9 HBz HC8 HB9 HFl
                generalize w9.drewN qz = wz at HBq HXq ⊢
                obtain ⟨x0, x1, x2, x5, x6⟩ := HCx.out wz HBq.out
                have k2 : wz.cell? ⟨b9, 2, none⟩ = some (.int .i64 n.kind) := by rw [cell_of_row _ _ _ _ _ _ HXq.out]; rfl
                go_upto_region 22 with fail
                first | refine cut_then (fun K hK => ?_) | (refine wp_seq ?_; refine cut_then (fun K hK => ?_))
                go_cut [178] from 160 to 179 (fun a wx => a = .bool (T.dir x.id && deepB m x.depth && !fl) ∧ Hid (wx = wz))
                case first =>
                  by_cases her : er = 0
                  · have d0 : (er == 0) = true := by rw [her]; rfl
                    cases hdir : T.dir x.id with
                    | false =>
                      have d1 : (n.kind == 2) = false := HK.out.trans hdir
                      go_wp2_with fail
                      go_meet
                      exact ⟨by simp [hdir], Lib.hid rfl⟩
                    | true =>
                      have d1 : (n.kind == 2) = true := HK.out.trans hdir
                      cases dp with
                      | false =>
                        go_wp2_with fail
                        go_meet
                        exact ⟨by rw [HDp.out]; simp [hdir], Lib.hid rfl⟩
                      | true =>
                        by_cases hd1 : x.depth < 100
                        · have d2 : decide (x.depth < 100) = true := decide_eq_true hd1
                          go_wp2_with fail
                          go_meet
                          exact ⟨by rw [HDp.out, d2]; simp [hdir], Lib.hid rfl⟩
                        · have d2 : decide (x.depth < 100) = false := decide_eq_false hd1
                          clear hd1
                          go_wp2_with fail
                          go_meet
                          exact ⟨by rw [HDp.out, d2]; simp [hdir], Lib.hid rfl⟩
                  · have d0 : (er == 0) = false := beq_eq_false_iff_ne.2 her
                    have hdir : T.dir x.id = false := by
                      rw [Bool.eq_false_iff]
                      exact fun q => her (HE8.out q)
                    go_wp2_with fail
                    go_meet
                    exact ⟨by rw [hdir]; simp, Lib.hid rfl⟩
                case rest =>
                  obtain ⟨rfl, hwx⟩ := hcut
                  have e2 := hwx.out.symm
                  subst e2
                  clear hwx
                  refine hK _ _ ?_
                  clear hK K
                  try dsimp only
                  have HBe := Lib.hid (V.below_two HBr.out (V.below_two HB1.out HBq.out))
                  have HOz := Lib.hid (B.owns_to HOs.out (V.below_two HB1.out HBq.out))
                  cases hpb : (T.dir x.id && deepB m x.depth && !fl) with
                  | false =>
                    have HS3' := Lib.hid (show S1 = S from HP2.out (fun ⟨q1, q2, q3⟩ => by
                      have q4 : fl = false := by rw [Bool.eq_false_iff]; exact fun q => q3 (HFz.out.1 q)
                      rw [q1, q2, q4] at hpb
                      cases hpb))
                    clear hpb x0 x1 x2 x5 x6 k2
                    go_wp2_with fail
                    go_roundw
                    case rel => exact ⟨j + 1, S, by simp, by omega, by omega, Lib.hid (by rw [← HS3'.out]; exact HS2.out), HOz, HBe⟩
                    case measure => simp [intOf]; omega
                  | true =>
                    have HS3' := Lib.hid (show S1 = S ++ [x.name] from by
                      rw [Bool.and_eq_true, Bool.and_eq_true] at hpb
                      obtain ⟨⟨q1, q2⟩, q3⟩ := hpb
                      exact HP1.out ⟨q1, q2, fun q => by rw [HFz.out.2 q] at q3; cases q3⟩)
                    clear hpb x0 x1 x2 x5 x6 k2
                    have HN2 := Lib.hid (show ∀ W, Below wz.heap.size wz W → W.cell? ⟨b8, 2, none⟩ = some (.string x.name) from fun W hW => (HCx.out W (V.below_two HBq.out hW)).2.2.1)
                    obtain ⟨it, hit, ht0, ht1, ht2⟩ := info_parts infoStr
                    go_upto_region 23 with fail
                    refine B.Till.region (z := 7) (S := fun w' => Below wz.heap.size wz w') (by kernel_rfl) ((Below.refl _ _).drew) (fun hHeld => ?_)
                    refine B.Till.take (i := 1) (oi := { dst := some 180, op := Op.move (Operand.tmp 6), type := 52, pos := "law.go:100", after := #[], guard := none }) (v := .slice os S.length sc) rfl (by kernel_rfl) (by kernel_rfl) (by kernel_rfl) (by kernel_rfl) (fun _ _ _ h => h) (Or.inl ⟨by rfl, fun w0 hS0 => ?_⟩) (by assumption) ?_
                    · go_simp
                    try simp only [Act.put, List.setIfInBounds_toArray, List.set_cons_zero, List.set_cons_succ]
                    refine B.Till.take (i := 3) (oi := { dst := some 182, op := Op.fieldAddr 42 (Operand.tmp 8) 2, type := 0, pos := "law.go:100", after := #[], guard := none }) (v := .pointer (some ⟨b8, 2, none⟩)) rfl (by kernel_rfl) (by kernel_rfl) (by kernel_rfl) (by kernel_rfl) (fun _ _ _ h => h) (Or.inl ⟨by rfl, fun w0 hS0 => ?_⟩) (by assumption) ?_
                    · go_simp
                    try simp only [Act.put, List.setIfInBounds_toArray, List.set_cons_zero, List.set_cons_succ]
                    refine B.Till.take (i := 4) (oi := { dst := some 183, op := Op.load 9 (Operand.tmp 182), type := 9, pos := "law.go:100", after := #[{ on := 3, ground := Ground.data }], guard := none }) (v := .string x.name) rfl (by kernel_rfl) (by kernel_rfl) (by kernel_rfl) (by kernel_rfl) (fun _ _ _ h => h) (Or.inl ⟨by rfl, fun w0 hS0 => ?_⟩) (by assumption) ?_
                    · have x2 := HN2.out _ hS0; go_simp
                    try simp only [Act.put, List.setIfInBounds_toArray, List.set_cons_zero, List.set_cons_succ]
                    refine B.Till.two (i := 0) (j := 5) (o := { dst := some 179, op := Op.buildSlice 52 0 #[], type := 52, pos := "law.go:100", after := #[], guard := none }) (o' := { dst := some 184, op := Op.buildSlice 52 1 #[(0, Operand.tmp 183)], type := 52, pos := "law.go:100", after := #[{ on := 4, ground := Ground.data }], guard := none }) (by kernel_rfl) rfl rfl (fun K hK => ?_) (fun K hK => ?_)
                    · go_simp
                      have hHA : Below wz.heap.size wz ((wz.alloc (.cells #[] 9)).drew) := ((Below.refl _ _).alloc (Nat.le_refl _) _).drew
                      have hNA : Below wz.heap.size wz ((wz.alloc (.cells #[] 9)).drew) := ((Below.refl _ _).alloc (Nat.le_refl _) _).drew
                      have HEA := Lib.hid (show ((wz.alloc (.cells #[] 9)).drew).ownsRow wz.heap.size 9 1 (.slice (some ⟨wz.heap.size, 0, none⟩) 0 0) 0 [] from V.owns_made (W := wz.drew) (Nat.le_refl _))
                      refine hK.out _ _ (fun _ => hHA) ?_
                      clear hK K
                      try simp only [Act.put, List.setIfInBounds_toArray, List.set_cons_zero, List.set_cons_succ]
                      generalize (wz.alloc (.cells #[] 9)).drew = wA at *
                      refine B.Till.two (i := 2) (j := 5) (o := { dst := some 181, op := Op.call { callee := Callee.builtin Builtin.append, args := #[Operand.tmp 179, Operand.tmp 180], argTypes := #[52, 52] }, type := 52, pos := "law.go:100", after := #[{ on := 0, ground := Ground.data }, { on := 1, ground := Ground.data }], guard := none }) (o' := { dst := some 184, op := Op.buildSlice 52 1 #[(0, Operand.tmp 183)], type := 52, pos := "law.go:100", after := #[{ on := 4, ground := Ground.data }], guard := none }) (by kernel_rfl) rfl rfl (fun K hK => ?_) (fun K hK => ?_)
                      · refine B.step_append_row rfl (.tmp 179) (.tmp 180) 52 rfl wz.heap.size 9 it (.string ⟨#[]⟩) 1 16 Tryz.underlying52 hit ht0 ht1 ht2 rfl (by decide) _ 0 [] rfl HEA.out _ S.length (nms S) rfl (B.owns_to HOz.out hHA) (nms_one _) (by unfold maxLen; omega) (by omega) hHA.size ?_
                        intro vC wC hown hgrow
                        rw [Nat.zero_add, List.nil_append] at hown
                        have HCC := Lib.hid hown
                        have hHC : Below wz.heap.size wz wC := hHA.grown hgrow hHA.size (fun k hk => (HEA.out.lt k hk).1)
                        clear hown hgrow
                        refine hK.out _ _ (fun _ => hHC) ?_
                        clear hK K
                        try simp only [Act.put, List.setIfInBounds_toArray, List.set_cons_zero, List.set_cons_succ]
                        refine B.Till.next (i := 5) (o := { dst := some 184, op := Op.buildSlice 52 1 #[(0, Operand.tmp 183)], type := 52, pos := "law.go:100", after := #[{ on := 4, ground := Ground.data }], guard := none }) (by kernel_rfl) rfl (fun K hK => ?_)
                        go_simp
                        have hHD : Below wz.heap.size wz ((wC).alloc (.cells #[.string x.name] 9)) := hHC.alloc hHC.size _
                        have hND : Below wC.heap.size wC ((wC).alloc (.cells #[.string x.name] 9)) := ((Below.refl _ _).alloc (Nat.le_refl _) _)
                        have HSD := Lib.hid (show ((wC).alloc (.cells #[.string x.name] 9)).ownsRow 0 9 1 (.slice (some ⟨wC.heap.size, 0, none⟩) 1 1) 1 (nms [x.name]) from V.owns_single 1 rfl)
                        refine hK.out _ _ (fun _ => hHD) ?_
                        clear hK K
                        try simp only [Act.put, List.setIfInBounds_toArray, List.set_cons_zero, List.set_cons_succ]
                        generalize (wC).alloc (.cells #[.string x.name] 9) = wD at *
                        refine B.Till.next (i := 6) (o := { dst := some 185, op := Op.call { callee := Callee.builtin Builtin.append, args := #[Operand.tmp 181, Operand.tmp 184], argTypes := #[52, 52] }, type := 52, pos := "law.go:100", after := #[{ on := 2, ground := Ground.data }, { on := 5, ground := Ground.data }, { on := 2, ground := Ground.chain }], guard := none }) (by kernel_rfl) rfl (fun K hK => ?_)
                        refine B.step_append_row rfl (.tmp 181) (.tmp 184) 52 rfl wz.heap.size 9 it (.string ⟨#[]⟩) 1 16 Tryz.underlying52 hit ht0 ht1 ht2 rfl (by decide) _ S.length (nms S) rfl (B.owns_to HCC.out hND) _ 1 (nms [x.name]) rfl HSD.out (nms_one _) (by unfold maxLen; omega) (by omega) hHD.size ?_
                        intro v9 w9 hown hgrow
                        have HH9 : Below wz.heap.size wz w9 := hHD.grown hgrow hHD.size (fun k hk => ((B.owns_to HCC.out hND).lt k hk).1)
                        have HT9 := Lib.hid (show w9.ownsRow 0 9 1 v9 (S ++ [x.name]).length (nms (S ++ [x.name])) from by rw [List.length_append, nms_app]; exact owns_lower hown (Nat.zero_le _))
                        clear hown hgrow
                        refine hK.out _ _ (fun _ => HH9) ?_
                        clear hK K
                        try simp only [Act.put, List.setIfInBounds_toArray, List.set_cons_zero, List.set_cons_succ]
                        refine B.Till.next (i := 7) (o := { dst := some 6, op := Op.assign (Operand.tmp 185), type := 52, pos := "law.go:100", after := #[{ on := 6, ground := Ground.data }, { on := 6, ground := Ground.chain }, { on := 0, ground := Ground.phase }, { on := 1, ground := Ground.phase }, { on := 2, ground := Ground.phase }, { on := 3, ground := Ground.phase }, { on := 4, ground := Ground.phase }, { on := 5, ground := Ground.phase }, { on := 6, ground := Ground.phase }], guard := none }) (by kernel_rfl) rfl (fun K hK => ?_)
                        go_simp
                        refine hK.out _ _ (fun q => absurd rfl q) ?_
                        clear hK K
                        try simp only [Act.put, List.setIfInBounds_toArray, List.set_cons_zero, List.set_cons_succ]
                        refine B.Till.done (by kernel_rfl) ?_
                        go_wp2_with fail
                        go_roundw
                        case rel => exact ⟨j + 1, S ++ [x.name], by simp, by omega, by rw [List.length_append, List.length_singleton]; omega, Lib.hid (by rw [← HS3'.out]; exact HS2.out), HT9, Lib.hid (V.below_two HBe.out HH9)⟩
                        case measure => simp [intOf]; omega
                      · go_simp
                        have hHC : Below wz.heap.size wz ((wA).alloc (.cells #[.string x.name] 9)) := hHA.alloc hHA.size _
                        have hNC : Below wA.heap.size wA ((wA).alloc (.cells #[.string x.name] 9)) := ((Below.refl _ _).alloc (Nat.le_refl _) _)
                        have HSC := Lib.hid (show ((wA).alloc (.cells #[.string x.name] 9)).ownsRow 0 9 1 (.slice (some ⟨wA.heap.size, 0, none⟩) 1 1) 1 (nms [x.name]) from V.owns_single 1 rfl)
                        refine hK.out _ _ (fun _ => hHC) ?_
                        clear hK K
                        try simp only [Act.put, List.setIfInBounds_toArray, List.set_cons_zero, List.set_cons_succ]
                        generalize (wA).alloc (.cells #[.string x.name] 9) = wC at *
                        refine B.Till.next (i := 2) (o := { dst := some 181, op := Op.call { callee := Callee.builtin Builtin.append, args := #[Operand.tmp 179, Operand.tmp 180], argTypes := #[52, 52] }, type := 52, pos := "law.go:100", after := #[{ on := 0, ground := Ground.data }, { on := 1, ground := Ground.data }], guard := none }) (by kernel_rfl) rfl (fun K hK => ?_)
                        refine B.step_append_row rfl (.tmp 179) (.tmp 180) 52 rfl wz.heap.size 9 it (.string ⟨#[]⟩) 1 16 Tryz.underlying52 hit ht0 ht1 ht2 rfl (by decide) _ 0 [] rfl (B.owns_to HEA.out hNC) _ S.length (nms S) rfl (B.owns_to HOz.out hHC) (nms_one _) (by unfold maxLen; omega) (by omega) hHC.size ?_
                        intro vD wD hown hgrow
                        rw [Nat.zero_add, List.nil_append] at hown
                        have HCD := Lib.hid hown
                        have hHD : Below wz.heap.size wz wD := hHC.grown hgrow hHC.size (fun k hk => ((B.owns_to HEA.out hNC).lt k hk).1)
                        have HSD := Lib.hid (B.owns_at HSC.out fun jj hj => hgrow.block _ (HSC.out.lt jj hj).2 (fun z => by have q1 : wA.heap.size = jj := Option.some.inj hj; have q2 : jj = wz.heap.size := Option.some.inj z; have q3 : wz.heap.size < wA.heap.size := (HEA.out.lt _ rfl).2; omega))
                        clear hown hgrow
                        refine hK.out _ _ (fun _ => hHD) ?_
                        clear hK K
                        try simp only [Act.put, List.setIfInBounds_toArray, List.set_cons_zero, List.set_cons_succ]
                        refine B.Till.next (i := 6) (o := { dst := some 185, op := Op.call { callee := Callee.builtin Builtin.append, args := #[Operand.tmp 181, Operand.tmp 184], argTypes := #[52, 52] }, type := 52, pos := "law.go:100", after := #[{ on := 2, ground := Ground.data }, { on := 5, ground := Ground.data }, { on := 2, ground := Ground.chain }], guard := none }) (by kernel_rfl) rfl (fun K hK => ?_)
                        refine B.step_append_row rfl (.tmp 181) (.tmp 184) 52 rfl wz.heap.size 9 it (.string ⟨#[]⟩) 1 16 Tryz.underlying52 hit ht0 ht1 ht2 rfl (by decide) _ S.length (nms S) rfl HCD.out _ 1 (nms [x.name]) rfl HSD.out (nms_one _) (by unfold maxLen; omega) (by omega) hHD.size ?_
                        intro v9 w9 hown hgrow
                        have HH9 : Below wz.heap.size wz w9 := hHD.grown hgrow hHD.size (fun k hk => (HCD.out.lt k hk).1)
                        have HT9 := Lib.hid (show w9.ownsRow 0 9 1 v9 (S ++ [x.name]).length (nms (S ++ [x.name])) from by rw [List.length_append, nms_app]; exact owns_lower hown (Nat.zero_le _))
                        clear hown hgrow
                        refine hK.out _ _ (fun _ => HH9) ?_
                        clear hK K
                        try simp only [Act.put, List.setIfInBounds_toArray, List.set_cons_zero, List.set_cons_succ]
                        refine B.Till.next (i := 7) (o := { dst := some 6, op := Op.assign (Operand.tmp 185), type := 52, pos := "law.go:100", after := #[{ on := 6, ground := Ground.data }, { on := 6, ground := Ground.chain }, { on := 0, ground := Ground.phase }, { on := 1, ground := Ground.phase }, { on := 2, ground := Ground.phase }, { on := 3, ground := Ground.phase }, { on := 4, ground := Ground.phase }, { on := 5, ground := Ground.phase }, { on := 6, ground := Ground.phase }], guard := none }) (by kernel_rfl) rfl (fun K hK => ?_)
                        go_simp
                        refine hK.out _ _ (fun q => absurd rfl q) ?_
                        clear hK K
                        try simp only [Act.put, List.setIfInBounds_toArray, List.set_cons_zero, List.set_cons_succ]
                        refine B.Till.done (by kernel_rfl) ?_
                        go_wp2_with fail
                        go_roundw
                        case rel => exact ⟨j + 1, S ++ [x.name], by simp, by omega, by rw [List.length_append, List.length_singleton]; omega, Lib.hid (by rw [← HS3'.out]; exact HS2.out), HT9, Lib.hid (V.below_two HBe.out HH9)⟩
                        case measure => simp [intOf]; omega
                    · go_simp
                      have hHA : Below wz.heap.size wz ((wz.alloc (.cells #[.string x.name] 9)).drew) := ((Below.refl _ _).alloc (Nat.le_refl _) _).drew
                      have hNA : Below wz.heap.size wz ((wz.alloc (.cells #[.string x.name] 9)).drew) := ((Below.refl _ _).alloc (Nat.le_refl _) _).drew
                      have HSA := Lib.hid (show ((wz.alloc (.cells #[.string x.name] 9)).drew).ownsRow 0 9 1 (.slice (some ⟨wz.heap.size, 0, none⟩) 1 1) 1 (nms [x.name]) from V.owns_single (W := wz.drew) (xs := [.string x.name]) 1 rfl)
                      refine hK.out _ _ (fun _ => hHA) ?_
                      clear hK K
                      try simp only [Act.put, List.setIfInBounds_toArray, List.set_cons_zero, List.set_cons_succ]
                      generalize (wz.alloc (.cells #[.string x.name] 9)).drew = wA at *
                      refine B.Till.next (i := 0) (o := { dst := some 179, op := Op.buildSlice 52 0 #[], type := 52, pos := "law.go:100", after := #[], guard := none }) (by kernel_rfl) rfl (fun K hK => ?_)
                      go_simp
                      have hHC : Below wz.heap.size wz ((wA).alloc (.cells #[] 9)) := hHA.alloc hHA.size _
                      have hNC : Below wA.heap.size wA ((wA).alloc (.cells #[] 9)) := ((Below.refl _ _).alloc (Nat.le_refl _) _)
                      have HEC := Lib.hid (show ((wA).alloc (.cells #[] 9)).ownsRow wz.heap.size 9 1 (.slice (some ⟨wA.heap.size, 0, none⟩) 0 0) 0 [] from V.owns_made hHA.size)
                      refine hK.out _ _ (fun _ => hHC) ?_
                      clear hK K
                      try simp only [Act.put, List.setIfInBounds_toArray, List.set_cons_zero, List.set_cons_succ]
                      generalize (wA).alloc (.cells #[] 9) = wC at *
                      refine B.Till.next (i := 2) (o := { dst := some 181, op := Op.call { callee := Callee.builtin Builtin.append, args := #[Operand.tmp 179, Operand.tmp 180], argTypes := #[52, 52] }, type := 52, pos := "law.go:100", after := #[{ on := 0, ground := Ground.data }, { on := 1, ground := Ground.data }], guard := none }) (by kernel_rfl) rfl (fun K hK => ?_)
                      refine B.step_append_row rfl (.tmp 179) (.tmp 180) 52 rfl wz.heap.size 9 it (.string ⟨#[]⟩) 1 16 Tryz.underlying52 hit ht0 ht1 ht2 rfl (by decide) _ 0 [] rfl HEC.out _ S.length (nms S) rfl (B.owns_to HOz.out hHC) (nms_one _) (by unfold maxLen; omega) (by omega) hHC.size ?_
                      intro vD wD hown hgrow
                      rw [Nat.zero_add, List.nil_append] at hown
                      have HCD := Lib.hid hown
                      have hHD : Below wz.heap.size wz wD := hHC.grown hgrow hHC.size (fun k hk => (HEC.out.lt k hk).1)
                      have HSD := Lib.hid (B.owns_at (B.owns_to HSA.out hNC) fun jj hj => hgrow.block _ ((B.owns_to HSA.out hNC).lt jj hj).2 (fun z => by have q1 : wz.heap.size = jj := Option.some.inj hj; have q2 : jj = wA.heap.size := Option.some.inj z; have q3 : wz.heap.size < wA.heap.size := (HSA.out.lt _ rfl).2; omega))
                      clear hown hgrow
                      refine hK.out _ _ (fun _ => hHD) ?_
                      clear hK K
                      try simp only [Act.put, List.setIfInBounds_toArray, List.set_cons_zero, List.set_cons_succ]
                      refine B.Till.next (i := 6) (o := { dst := some 185, op := Op.call { callee := Callee.builtin Builtin.append, args := #[Operand.tmp 181, Operand.tmp 184], argTypes := #[52, 52] }, type := 52, pos := "law.go:100", after := #[{ on := 2, ground := Ground.data }, { on := 5, ground := Ground.data }, { on := 2, ground := Ground.chain }], guard := none }) (by kernel_rfl) rfl (fun K hK => ?_)
                      refine B.step_append_row rfl (.tmp 181) (.tmp 184) 52 rfl wz.heap.size 9 it (.string ⟨#[]⟩) 1 16 Tryz.underlying52 hit ht0 ht1 ht2 rfl (by decide) _ S.length (nms S) rfl HCD.out _ 1 (nms [x.name]) rfl HSD.out (nms_one _) (by unfold maxLen; omega) (by omega) hHD.size ?_
                      intro v9 w9 hown hgrow
                      have HH9 : Below wz.heap.size wz w9 := hHD.grown hgrow hHD.size (fun k hk => (HCD.out.lt k hk).1)
                      have HT9 := Lib.hid (show w9.ownsRow 0 9 1 v9 (S ++ [x.name]).length (nms (S ++ [x.name])) from by rw [List.length_append, nms_app]; exact owns_lower hown (Nat.zero_le _))
                      clear hown hgrow
                      refine hK.out _ _ (fun _ => HH9) ?_
                      clear hK K
                      try simp only [Act.put, List.setIfInBounds_toArray, List.set_cons_zero, List.set_cons_succ]
                      refine B.Till.next (i := 7) (o := { dst := some 6, op := Op.assign (Operand.tmp 185), type := 52, pos := "law.go:100", after := #[{ on := 6, ground := Ground.data }, { on := 6, ground := Ground.chain }, { on := 0, ground := Ground.phase }, { on := 1, ground := Ground.phase }, { on := 2, ground := Ground.phase }, { on := 3, ground := Ground.phase }, { on := 4, ground := Ground.phase }, { on := 5, ground := Ground.phase }, { on := 6, ground := Ground.phase }], guard := none }) (by kernel_rfl) rfl (fun K hK => ?_)
                      go_simp
                      refine hK.out _ _ (fun q => absurd rfl q) ?_
                      clear hK K
                      try simp only [Act.put, List.setIfInBounds_toArray, List.set_cons_zero, List.set_cons_succ]
                      refine B.Till.done (by kernel_rfl) ?_
                      go_wp2_with fail
                      go_roundw
                      case rel => exact ⟨j + 1, S ++ [x.name], by simp, by omega, by rw [List.length_append, List.length_singleton]; omega, Lib.hid (by rw [← HS3'.out]; exact HS2.out), HT9, Lib.hid (V.below_two HBe.out HH9)⟩
                      case measure => simp [intOf]; omega
          · obtain ⟨hS, j', u', rfl, hu, hun, huo⟩ := stepO_err HX.out ho he HS1.out
            subst hS
            have HU := Lib.hid hu
            have de : (x.err != 0) = true := by rw [bne_iff_ne]; exact he
            have d0 : ((j' : Int) + 1 == 0) = false := beq_eq_false_iff_ne.2 (by omega)
            have hw0 : IntKind.i64.wrap (j' : Int) = (j' : Int) := IntWalk.i64_in _ (by omega)
            have hRu := range_vis (V.owns_keep HOa.out (V.below_two HBr.out HB1.out)) HU.out
            have y2 : w1.cell? ⟨ga, j' * 7 + 2, none⟩ = some (.string x.name) := by rw [← hun]; exact hRu 2 _ rfl
            have y5 : w1.cell? ⟨ga, j' * 7 + 5, none⟩ = some (.bool false) := by rw [← huo]; exact hRu 5 _ rfl
            have hj' : j' < A.length := by omega
            clear hu hun huo hRu he
            go_upto_region 15 with fail
            go_quiet (fail)
            clear x0 x1 x2 x5 x6 y2 y5
            go_wp2_with fail
            go_roundw
            case rel => exact ⟨j' + 1 + 1, S1, by simp, by omega, by omega, HS2, Lib.hid (B.owns_to HOs.out (drewn_below HB1.out)), Lib.hid (drewn_below (V.below_two HBr.out HB1.out))⟩
            case measure => simp [intOf]; omega
      · have dj : decide ((j : Int) < (A.length : Int)) = false := decide_eq_false (by omega)
        obtain rfl : j = A.length := by omega
        have hS0 : S = [] := HSs.out.end_
        subst hS0
        obtain ⟨os, sc, hv⟩ := B.owns_form HOs.out
        subst hv
        go_wp2_with fail
        go_ret
        exact ⟨rfl, V.below_two HBw.out (V.below_two HB6.out HBr.out)⟩
end Go.Proofs.YtcjbnjoomgagjaaGreatDoor.G
