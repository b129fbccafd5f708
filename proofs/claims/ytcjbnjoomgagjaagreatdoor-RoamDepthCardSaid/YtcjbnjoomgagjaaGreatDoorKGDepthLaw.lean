/-
  That the law RoamDepth returns true. Conditions: the table of classes lies as its text lays it; what came in lies in memory.
-/
import Derived.Test.YtcjbnjoomgagjaaGreatDoorKGQuiet
set_option linter.unusedVariables false
set_option linter.unusedSimpArgs false
namespace Go.Proofs.YtcjbnjoomgagjaaGreatDoor.G
open Go.RowKit

theorem less_any {T : Tr} {E : Int → Int} (kk i : Int) (s : ByteArray) (h0 : 0 ≤ kk) (h1 : kk < 100) : (walkL T E (-1) i s).filter (keepB kk) = walkL T E kk i s := by
  unfold walkL
  split
  · exact walk_less T kk h0 h1 101 (firstV i s) h0 rfl rfl
  · rfl
theorem take_snocV {l : List Vis} {j : Nat} {e : Vis} (he : l[j]? = some e) : l.take (j + 1) = l.take j ++ [e] := by
  rw [List.take_add_one, he]; rfl
theorem keep_skip {A : List Vis} {kk : Int} {j : Nat} {x : Vis} (hx : A[j]? = some x) (h : keepB kk x = false) : ((A.take (j + 1)).filter (keepB kk)).length = ((A.take j).filter (keepB kk)).length := by
  rw [take_snocV hx, List.filter_append, List.filter_cons, if_neg (by rw [h]; decide), List.filter_nil, List.append_nil]
theorem keep_put {A : List Vis} {kk : Int} {j : Nat} {x : Vis} (hx : A[j]? = some x) (h : keepB kk x = true) : ((A.take (j + 1)).filter (keepB kk)).length = ((A.take j).filter (keepB kk)).length + 1 ∧ (A.filter (keepB kk))[((A.take j).filter (keepB kk)).length]? = some x := by
  have e : (A.take (j + 1)).filter (keepB kk) = (A.take j).filter (keepB kk) ++ [x] := by
    rw [take_snocV hx, List.filter_append, List.filter_cons, if_pos h, List.filter_nil]
  refine ⟨by rw [e, List.length_append]; rfl, ?_⟩
  have e2 : A.filter (keepB kk) = (A.take (j + 1)).filter (keepB kk) ++ (A.drop (j + 1)).filter (keepB kk) := by rw [← List.filter_append, List.take_append_drop]
  rw [e2, e, List.append_assoc, List.getElem?_append_right (Nat.le_refl _), Nat.sub_self]
  rfl
def DepRel (A : List Vis) (kk : Int) (W : World) (v10 v11 : Value) (wr : World) : Prop := ∃ (j k : Nat), v10 = .int .i64 (k : Int) ∧ v11 = .int .i64 (j : Int) ∧ j ≤ A.length ∧ k ≤ j ∧ Hid (k = ((A.take j).filter (keepB kk)).length) ∧ Hid (∃ q, wr = W.drewN q)
set_option maxRecDepth 100000 in
set_option maxHeartbeats 16000000 in
theorem depth_any (cs : List V.Chg) (a : Option Addr) (cap : Nat) (u g i : Int) (s : ByteArray) (m : Int) (fo : Bool) (ms : Int) (w : World) (H : V.IsChgs w a cs) (ht : P.Tab w) (hl : cs.length ≤ 9223372036854775807) (hz : ∀ c ∈ cs, (c.name.size ≤ 9223372036854775807 ∧ c.text.size ≤ 9223372036854775807) ∧ -9223372036854775808 ≤ c.n ∧ c.n ≤ 9223372036854775807) (hm : 0 ≤ ms ∧ ms ≤ 255) :
    Calls Tryz.prog 3 #[askedV a cs.length cap u g i s m fo, .int .u8 ms] w fun e w' => e = .returned (.bool true) ∧ Below w.heap.size w w' := by
  have HFw := Lib.hid (fun (W : World) (hb : Below w.heap.size w W) => askedFew_any cs a cap u g i s m fo 40 W (H.keep hb) hl (fun c hc => (hz c hc).1))
  have HMd := Lib.hid (fun (W : World) (hb : Below w.heap.size w W) (h4 : cs.length ≤ 400) (hf : V.FewL cs) => V.made_any cs a cap W (H.keep hb) h4 hf (fun c hc => (hz c hc).2))
  have HT := Lib.hid ht
  clear H hz ht
  unfold askedV at HFw ⊢
  go_enter Tryz.func3, Tryz.ntmps3
  go_upto_region 1 with fail
  have HB0 := Lib.hid (show Below w.heap.size w (w.alloc (.cells #[.slice a cs.length cap, .int .i64 u, .int .i64 g, .int .i64 i, .string s, .int .i64 m, .bool fo] 26)) from (Below.refl _ _).alloc (Nat.le_refl _) _)
  have HX0 := Lib.hid (heap_alloc_new w (.cells #[.slice a cs.length cap, .int .i64 u, .int .i64 g, .int .i64 i, .string s, .int .i64 m, .bool fo] 26))
  generalize w.alloc (.cells #[.slice a cs.length cap, .int .i64 u, .int .i64 g, .int .i64 i, .string s, .int .i64 m, .bool fo] 26) = w0 at HB0 HX0 ⊢
  have HCl := Lib.hid (show ∀ W, Below w0.heap.size w0 W → W.cell? ⟨w.heap.size, 0, none⟩ = some (.slice a cs.length cap) ∧ W.cell? ⟨w.heap.size, 1, none⟩ = some (.int .i64 u) ∧ W.cell? ⟨w.heap.size, 2, none⟩ = some (.int .i64 g) ∧ W.cell? ⟨w.heap.size, 3, none⟩ = some (.int .i64 i) ∧ W.cell? ⟨w.heap.size, 4, none⟩ = some (.string s) ∧ W.cell? ⟨w.heap.size, 5, none⟩ = some (.int .i64 m) ∧ W.cell? ⟨w.heap.size, 6, none⟩ = some (.bool fo) from fun W hW => by
    have q := (hW.block _ (B.heap_lt HX0.out)).trans HX0.out
    refine ⟨?_, ?_, ?_, ?_, ?_, ?_, ?_⟩ <;> (rw [cell_of_row _ _ _ _ _ _ q]; rfl))
  go_wp2_with fail
  refine (awoken_any _ (HT.out.keep HB0.out)).mono ?_
  rintro e w2 ⟨rfl, hb2⟩
  have HB2 := Lib.hid hb2
  clear hb2
  obtain ⟨c0, c1, c2, c3, c4, c5, c6⟩ := HCl.out _ HB2.out
  go_wp2_with fail
  refine (HFw.out _ (V.below_two HB0.out HB2.out)).mono ?_
  rintro e w3 ⟨b, rfl, hb, hb3⟩
  have HBb := Lib.hid hb
  have HB3 := Lib.hid (V.below_two HB2.out hb3)
  clear hb hb3 c0 c1 c2 c3 c4 c5 c6
  obtain ⟨c0, c1, c2, c3, c4, c5, c6⟩ := HCl.out _ HB3.out
  cases b with
  | false =>
    go_wp2_with fail
    refine (awoken_any _ (HT.out.keep (V.below_two HB0.out HB3.out))).mono ?_
    rintro e w4 ⟨rfl, hb4⟩
    have HB4 := Lib.hid (V.below_two (V.below_two HB0.out HB3.out) hb4)
    clear hb4
    go_wp2_with fail
    go_ret
    exact ⟨rfl, HB4.out⟩
  | true =>
    obtain ⟨⟨f1, f2⟩, f3⟩ := HBb.out.1 rfl
    have HFL := Lib.hid f1
    have HS3 := Lib.hid (show s.size ≤ 300 from f3)
    have hcl : cs.length ≤ 400 := by omega
    clear f1 f2 f3 HBb HFw
    have HM := Lib.hid (HMd.out _ (V.below_two HB0.out HB3.out) hcl HFL.out)
    have HG := Lib.hid (good_run cs hcl)
    generalize V.runM cs V.newM = M at HM HG
    go_upto_region 3 with fail
    go_wp2_with fail
    refine HM.out.mono ?_
    rintro e w4 ⟨p, r, L, rfl, T4, l4⟩
    have HR4 := Lib.hid T4.rs
    have HRel := Lib.hid T4.rel
    have HF4 := Lib.hid T4.fs
    have HN4 := Lib.hid (V.rs_one T4.rs)
    have HB4 := Lib.hid (V.below_two HB3.out T4.fs.below)
    have hL4 : L.length ≤ 1000000 := by omega
    clear T4 HM HMd c0 c1 c2 c3 c4 c5 c6 l4 HFL
    go_upto_region 4 with (refine wpList_store_row rfl 35 (.tmp 6) (.tmp 25) rfl w4.heap.size #[r.n, r.l, r.c, r.d, r.a, r.f] rfl rfl 35 V.nilsR (heap_alloc_new _ _) V.sizeRef rfl HN4.out ?_; rw [World.setRow_alloc_new])
    have HA5 := Lib.hid (show Below w4.heap.size w4 (w4.alloc (.cells #[r.n, r.l, r.c, r.d, r.a, r.f] 35)) from (Below.refl _ _).alloc (Nat.le_refl _) _)
    have HX5 := Lib.hid (heap_alloc_new w4 (.cells #[r.n, r.l, r.c, r.d, r.a, r.f] 35))
    generalize w4.alloc (.cells #[r.n, r.l, r.c, r.d, r.a, r.f] 35) = w5 at HA5 HX5 ⊢
    have HF5 := Lib.hid (HF4.out.keep HA5.out)
    have HR5 := Lib.hid (HR4.out.keep HA5.out)
    have HB5 := Lib.hid (V.below_two HB4.out HA5.out)
    have HBw := Lib.hid (V.below_two HB0.out HB5.out)
    have HT5 := Lib.hid (HT.out.keep HBw.out)
    generalize w4.heap.size = B4 at HX5 ⊢
    clear HF4 HR4 HN4 HA5 HB4 HX0
    obtain ⟨kk, hkk⟩ : ∃ kk, ms % 6 = kk := ⟨_, rfl⟩
    have hk0 : 0 ≤ kk := by omega
    have hk6 : kk < 6 := by omega
    have e1 : ms.tmod 6 = kk := by rw [Int.tmod_eq_emod_of_nonneg hm.1]; exact hkk
    have e2 : IntKind.u8.wrap kk = kk := IntWalk.u8_in _ (by omega)
    have e3 : IntKind.i64.wrap kk = kk := IntWalk.i64_in _ (by omega)
    obtain ⟨c0, c1, c2, c3, c4, c5, c6⟩ := HCl.out _ HB5.out
    go_upto_region 5 with fail
    clear e1 e2 e3 hkk hm
    have HL := Lib.hid (less_any (T := treeM M u g fo) (E := V.nodeEr M) kk i s hk0 (by omega))
    have HWa := Lib.hid (fun W (hb : Below w5.heap.size w5 W) => walkM_any u g fo (HF5.out.keep hb) (HT5.out.keep hb) HG.out (-1) i s HS3.out)
    have HWb := Lib.hid (fun W (hb : Below w5.heap.size w5 W) => walkM_any u g fo (HF5.out.keep hb) (HT5.out.keep hb) HG.out kk i s HS3.out)
    have HAl := Lib.hid (show (walkL (treeM M u g fo) (V.nodeEr M) (-1) i s).length ≤ 200000 from by
      unfold walkL
      split
      · have := (HG.out.walk u g fo (-1) (firstV i s) 101).1
        show (walkV (treeM M u g fo) (-1) 101 (firstV i s)).length ≤ _
        omega
      · exact Nat.zero_le _)
    unfold WalkP at HWa HWb
    generalize walkL (treeM M u g fo) (V.nodeEr M) (-1) i s = A at HL HWa HAl
    generalize walkL (treeM M u g fo) (V.nodeEr M) kk i s = C at HL HWb
    unfold P.credV at HWa HWb
    go_wp2_with fail
    refine (HWa.out _ (Below.refl _ _)).mono ?_
    rintro e w6 ⟨va, rfl, ho, hb6⟩
    have HB6 := Lib.hid hb6
    have HOa := Lib.hid (owns_lower ho (Nat.zero_le _))
    clear ho hb6 c0 c1 c2 c3 c4 c5 c6
    obtain ⟨c0, c1, c2, c3, c4, c5, c6⟩ := HCl.out _ (V.below_two HB5.out HB6.out)
    obtain ⟨aa, la, ha⟩ := B.owns_form HOa.out
    subst ha
    go_wp2_with fail
    refine (HWb.out _ HB6.out).mono ?_
    rintro e w7 ⟨vc, rfl, ho, hb7⟩
    have HB7 := Lib.hid (V.below_two HB6.out hb7)
    have HOc := Lib.hid (owns_lower ho (Nat.zero_le _))
    have HOb := Lib.hid (V.owns_keep HOa.out hb7)
    clear ho hb7 c0 c1 c2 c3 c4 c5 c6 HOa HWa HWb
    obtain ⟨ac, lc, hc⟩ := B.owns_form HOc.out
    subst hc
    have hAl : A.length ≤ 200000 := HAl.out
    have hCl : C.length ≤ A.length := by rw [← HL.out]; exact List.length_filter_le _ _
    go_wp2_with fail
    go_loopw [10, 11] (DepRel A kk w7) (fun _ v _ => A.length - (intOf v).toNat)
    case atStart => exact ⟨0, 0, rfl, rfl, Nat.zero_le _, Nat.le_refl _, Lib.hid rfl, Lib.hid ⟨0, rfl⟩⟩
    case round =>
      obtain ⟨j, k, rfl, rfl, hj, hkj, HK, hq⟩ := hrel
      obtain ⟨q, hq⟩ := hq.out
      have HQ := Lib.hid hq
      have HBq := Lib.hid (show Below w7.heap.size w7 wr from by rw [hq]; exact drewn_below (Below.refl _ _))
      clear hq
      by_cases hlt : j < A.length
      · have dj : decide ((j : Int) < (A.length : Int)) = true := decide_eq_true (by omega)
        obtain ⟨x, hx⟩ : ∃ x, A[j]? = some x := ⟨_, List.getElem?_eq_getElem hlt⟩
        have HX := Lib.hid hx
        obtain ⟨ga, l2, hv, _, _⟩ := B.owns_some HOb.out (by omega)
        simp only [Value.slice.injEq] at hv
        obtain ⟨rfl, _, rfl⟩ := hv
        have HCx := Lib.hid (fun (n : Nat) (v : Value) (hn : n < 7) (h : (visC x)[n]? = some v) => show wr.cell? ⟨ga, j * 7 + n, none⟩ = some v from B.owns_cell (V.owns_keep HOb.out HBq.out) ((rowsC_get visC_len _ _ n _ HX.out hn).trans h))
        have x1 := HCx.out 1 _ (by decide) rfl
        have x5 := HCx.out 5 _ (by decide) rfl
        have x6 := HCx.out 6 _ (by decide) rfl
        clear hx
        go_upto_region 11 with fail
        go_cut [86] from 56 to 87 (fun a wx => a = .bool (!keepB kk x) ∧ Hid (wx = wr))
        case first =>
          by_cases h1 : kk < x.depth
          · have d1 : decide (kk < x.depth) = true := decide_eq_true h1
            go_wp2_with fail
            go_meet
            exact ⟨by unfold keepB; rw [d1]; rfl, Lib.hid rfl⟩
          · have d1 : decide (kk < x.depth) = false := decide_eq_false h1
            by_cases h2 : x.depth = kk
            · have d2 : (x.depth == kk) = true := by rw [h2]; exact beq_self_eq_true kk
              have d3 : decide (x.depth = kk) = true := decide_eq_true h2
              cases ho : x.over with
              | true =>
                rw [ho] at x5
                go_wp2_with fail
                go_meet
                exact ⟨by unfold keepB; rw [d1, d3, ho]; rfl, Lib.hid rfl⟩
              | false =>
                rw [ho] at x5
                have d4 : (x.err != 0) = !decide (x.err = 0) := by rw [Bool.eq_iff_iff]; simp
                go_wp2_with fail
                go_meet
                exact ⟨by unfold keepB; rw [d1, d3, ho]; (first | (simp; done) | (simp; exact d4)), Lib.hid rfl⟩
            · have d2 : (x.depth == kk) = false := beq_eq_false_iff_ne.2 h2
              have d3 : decide (x.depth = kk) = false := decide_eq_false h2
              go_wp2_with fail
              go_meet
              exact ⟨by unfold keepB; rw [d1, d3]; rfl, Lib.hid rfl⟩
        case rest =>
          obtain ⟨rfl, hwx⟩ := hcut
          have e2 := hwx.out.symm
          subst e2
          clear hwx x1 x5 x6
          cases hs : keepB kk x with
          | false =>
            have HSk := Lib.hid (keep_skip HX.out hs)
            clear hs
            go_wp2_with fail
            go_roundw
            case rel => exact ⟨j + 1, k, rfl, by simp, by omega, by omega, Lib.hid (by rw [HSk.out]; exact HK.out), Lib.hid ⟨q, HQ.out⟩⟩
            case measure => simp [intOf]; omega
          | true =>
            obtain ⟨hp1, hp2⟩ := keep_put HX.out hs
            rw [HL.out, ← HK.out] at hp2
            have HSp := Lib.hid hp1
            have HCk := Lib.hid hp2
            have hkC : k < C.length := (List.getElem?_eq_some_iff.1 hp2).1
            clear hs hp1 hp2
            have dk : decide ((C.length : Int) ≤ (k : Int)) = false := decide_eq_false (by omega)
            have dk2 : decide (C.length ≤ k) = false := decide_eq_false (by omega)
            have dk3 : ¬ (C.length ≤ k) := by omega
            obtain ⟨gc, l3, hv, _, _⟩ := B.owns_some HOc.out (by omega)
            simp only [Value.slice.injEq] at hv
            obtain ⟨rfl, _, rfl⟩ := hv
            have HCy := Lib.hid (fun (n : Nat) (v : Value) (hn : n < 7) (h : (visC x)[n]? = some v) => show wr.cell? ⟨gc, k * 7 + n, none⟩ = some v from B.owns_cell (V.owns_keep HOc.out HBq.out) ((rowsC_get visC_len _ _ n _ HCk.out hn).trans h))
            have HRx := Lib.hid (fun W (hb : ∃ n, W = wr.drewN n) => range_vis (V.owns_keep HOb.out (show Below w7.heap.size w7 W from by obtain ⟨n, rfl⟩ := hb; exact drewn_below HBq.out)) HX.out)
            have HRy := Lib.hid (fun W (hb : ∃ n, W = wr.drewN n) => range_vis (V.owns_keep HOc.out (show Below w7.heap.size w7 W from by obtain ⟨n, rfl⟩ := hb; exact drewn_below HBq.out)) HCk.out)
            go_upto_region 12 with fail
            refine wp_region_quiet_lit (by kernel_rfl) (by kernel_rfl) ?_
            repeat (first | go_big_quiet_skip | (go_big_quiet_want; go_big_quiet_op; go_big_quiet_on))
            go_big_quiet_want
            refine quiet_load_mid 42 (.tmp 94) rfl gc (k * 7) rfl (visC x) _ HRy.out Tryz.underlying42 rfl sizeVis' ?_
            try simp only [Act.put, List.setIfInBounds_toArray, List.set_cons_zero, List.set_cons_succ]
            go_big_quiet_on
            repeat (first | go_big_quiet_skip | (go_big_quiet_want; go_big_quiet_op; go_big_quiet_on))
            go_big_quiet_want
            refine quiet_load_mid 42 (.tmp 98) rfl ga (j * 7) rfl (visC x) _ HRx.out Tryz.underlying42 rfl sizeVis' ?_
            try simp only [Act.put, List.setIfInBounds_toArray, List.set_cons_zero, List.set_cons_succ]
            go_big_quiet_on
            unfold visC
            repeat (first | go_big_quiet_skip | (go_big_quiet_want; go_big_quiet_op; go_big_quiet_on))
            refine wpQuiet_nil ?_
            rintro _ ⟨nq, rfl⟩
            go_wp2_with fail
            go_roundw
            case rel => exact ⟨j + 1, k + 1, by simp, by simp, by omega, by omega, Lib.hid (by rw [HSp.out, ← HK.out]), Lib.hid ⟨q + nq, by rw [HQ.out, World.drewN_drewN]⟩⟩
            case measure => simp [intOf]; omega
      · have dj : decide ((j : Int) < (A.length : Int)) = false := decide_eq_false (by omega)
        obtain rfl : j = A.length := by omega
        have HE := Lib.hid (show k = C.length from by rw [HK.out, List.take_length, HL.out])
        have dk : ((k : Int) == (C.length : Int)) = true := by rw [HE.out]; exact beq_self_eq_true _
        go_wp2_with fail
        go_ret
        exact ⟨by simp [dk], V.below_two HBw.out (V.below_two HB7.out HBq.out)⟩
end Go.Proofs.YtcjbnjoomgagjaaGreatDoor.G
