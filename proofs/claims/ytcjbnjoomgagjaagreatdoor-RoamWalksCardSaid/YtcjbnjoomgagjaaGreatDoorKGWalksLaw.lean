/-
  That the law RoamWalks returns true. Conditions: the table of classes lies as its text lays it; what came in lies in memory.
-/
import Derived.Test.YtcjbnjoomgagjaaGreatDoorKGQuiet
import Derived.Test.YtcjbnjoomgagjaaGreatDoorKGRefW
set_option linter.unusedVariables false
set_option linter.unusedSimpArgs false
namespace Go.Proofs.YtcjbnjoomgagjaaGreatDoor.G
open Go.RowKit
def WlkRel (n : Nat) (W : World) (v : Value) (wr : World) : Prop := ∃ j : Nat, v = .int .i64 (j : Int) ∧ j ≤ n ∧ Hid (∃ q, wr = W.drewN q)
theorem nodeE_in {M : List V.Nd} {i : Int} (h : 0 ≤ i ∧ i < (M.length : Int)) : V.nodeEr M i = 0 := by
  obtain ⟨k, rfl⟩ := Int.eq_ofNat_of_zero_le h.1
  obtain ⟨n, hn⟩ : ∃ n, M[k]? = some n := ⟨_, List.getElem?_eq_getElem (show k < M.length by omega)⟩
  unfold V.nodeEr V.atM
  rw [if_pos h, show (k : Int).toNat = k from Int.toNat_natCast k, hn]
theorem nodeE_out {M : List V.Nd} {i : Int} (h : ¬ (0 ≤ i ∧ i < (M.length : Int))) : V.nodeEr M i ≠ 0 := by
  unfold V.nodeEr V.atM
  rw [if_neg h]
  decide
set_option maxRecDepth 100000 in
set_option maxHeartbeats 16000000 in
theorem walks_any (cs : List V.Chg) (a : Option Addr) (cap : Nat) (u g i : Int) (s : ByteArray) (m : Int) (fo : Bool) (w : World) (H : V.IsChgs w a cs) (ht : P.Tab w) (hl : cs.length ≤ 9223372036854775807) (hz : ∀ c ∈ cs, (c.name.size ≤ 9223372036854775807 ∧ c.text.size ≤ 9223372036854775807) ∧ -9223372036854775808 ≤ c.n ∧ c.n ≤ 9223372036854775807) :
    Calls Tryz.prog 5 #[askedV a cs.length cap u g i s m fo] w fun e w' => e = .returned (.bool true) ∧ Below w.heap.size w w' := by
  have HFw := Lib.hid (fun (W : World) (hb : Below w.heap.size w W) => askedFew_any cs a cap u g i s m fo 50 W (H.keep hb) hl (fun c hc => (hz c hc).1))
  have HMd := Lib.hid (fun (W : World) (hb : Below w.heap.size w W) (h4 : cs.length ≤ 400) (hf : V.FewL cs) => V.made_any cs a cap W (H.keep hb) h4 hf (fun c hc => (hz c hc).2))
  have HT := Lib.hid ht
  clear H hz ht
  unfold askedV at HFw ⊢
  go_enter Tryz.func5, Tryz.ntmps5
  go_upto_region 1 with fail
  have HB0 := Lib.hid (show Below w.heap.size w (w.alloc (.cells #[.slice a cs.length cap, .int .i64 u, .int .i64 g, .int .i64 i, .string s, .int .i64 m, .bool fo] 26)) from (Below.refl _ _).alloc (Nat.le_refl _) _)
  have HX0 := Lib.hid (heap_alloc_new w (.cells #[.slice a cs.length cap, .int .i64 u, .int .i64 g, .int .i64 i, .string s, .int .i64 m, .bool fo] 26))
  generalize w.alloc (.cells #[.slice a cs.length cap, .int .i64 u, .int .i64 g, .int .i64 i, .string s, .int .i64 m, .bool fo] 26) = w0 at HB0 HX0 ⊢
  have HCl := Lib.hid (show ∀ W, Below w0.heap.size w0 W → W.cell? ⟨w.heap.size, 0, none⟩ = some (.slice a cs.length cap) ∧ W.cell? ⟨w.heap.size, 1, none⟩ = some (.int .i64 u) ∧ W.cell? ⟨w.heap.size, 2, none⟩ = some (.int .i64 g) ∧ W.cell? ⟨w.heap.size, 3, none⟩ = some (.int .i64 i) ∧ W.cell? ⟨w.heap.size, 4, none⟩ = some (.string s) ∧ W.cell? ⟨w.heap.size, 5, none⟩ = some (.int .i64 m) ∧ W.cell? ⟨w.heap.size, 6, none⟩ = some (.bool fo) from fun W hW => by
    have q := (hW.block _ (B.heap_lt HX0.out)).trans HX0.out
    refine ⟨?_, ?_, ?_, ?_, ?_, ?_, ?_⟩ <;> (rw [cell_of_row _ _ _ _ _ _ q]; rfl))
  go_wp2_with fail
  refine (awoken_any _ (HT.out.keep HB0.out)).mono ?_
  rintro e w2 ⟨rfl, hb2⟩
  have HB2 := Lib.hid hb2
  clear hb2
  obtain ⟨c0, c1, c2, c3, c4, c5, c6⟩ := HCl.out _ HB2.out
  go_wp2_with fail
  refine (HFw.out _ (V.below_two HB0.out HB2.out)).mono ?_
  rintro e w3 ⟨b, rfl, hb, hb3⟩
  have HBb := Lib.hid hb
  have HB3 := Lib.hid (V.below_two HB2.out hb3)
  clear hb hb3 c0 c1 c2 c3 c4 c5 c6
  obtain ⟨c0, c1, c2, c3, c4, c5, c6⟩ := HCl.out _ HB3.out
  cases b with
  | false =>
    go_wp2_with fail
    refine (awoken_any _ (HT.out.keep (V.below_two HB0.out HB3.out))).mono ?_
    rintro e w4 ⟨rfl, hb4⟩
    have HB4 := Lib.hid (V.below_two (V.below_two HB0.out HB3.out) hb4)
    clear hb4
    go_wp2_with fail
    go_ret
    exact ⟨rfl, HB4.out⟩
  | true =>
    obtain ⟨⟨f1, f2⟩, f3⟩ := HBb.out.1 rfl
    have HFL := Lib.hid f1
    have HS3 := Lib.hid (show s.size ≤ 300 from f3)
    have hcl : cs.length ≤ 400 := by omega
    clear f1 f2 f3 HBb HFw
    have HM := Lib.hid (HMd.out _ (V.below_two HB0.out HB3.out) hcl HFL.out)
    have HG := Lib.hid (good_run cs hcl)
    generalize V.runM cs V.newM = M at HM HG
    go_upto_region 3 with fail
    go_wp2_with fail
    refine HM.out.mono ?_
    rintro e w4 ⟨p, r, L, rfl, T4, l4⟩
    have HR4 := Lib.hid T4.rs
    have HRel := Lib.hid T4.rel
    have HF4 := Lib.hid T4.fs
    have HN4 := Lib.hid (V.rs_one T4.rs)
    have HB4 := Lib.hid (V.below_two HB3.out T4.fs.below)
    have hL4 : L.length ≤ 1000000 := by omega
    clear T4 HM HMd c0 c1 c2 c3 c4 c5 c6 l4 HFL
    go_upto_region 4 with (refine wpList_store_row rfl 35 (.tmp 4) (.tmp 21) rfl w4.heap.size #[r.n, r.l, r.c, r.d, r.a, r.f] rfl rfl 35 V.nilsR (heap_alloc_new _ _) V.sizeRef rfl HN4.out ?_; rw [World.setRow_alloc_new])
    have HA5 := Lib.hid (show Below w4.heap.size w4 (w4.alloc (.cells #[r.n, r.l, r.c, r.d, r.a, r.f] 35)) from (Below.refl _ _).alloc (Nat.le_refl _) _)
    have HX5 := Lib.hid (heap_alloc_new w4 (.cells #[r.n, r.l, r.c, r.d, r.a, r.f] 35))
    generalize w4.alloc (.cells #[r.n, r.l, r.c, r.d, r.a, r.f] 35) = w5 at HA5 HX5 ⊢
    have HF5 := Lib.hid (HF4.out.keep HA5.out)
    have HR5 := Lib.hid (HR4.out.keep HA5.out)
    have HB5 := Lib.hid (V.below_two HB4.out HA5.out)
    have HBw := Lib.hid (V.below_two HB0.out HB5.out)
    have HT5 := Lib.hid (HT.out.keep HBw.out)
    generalize w4.heap.size = B4 at HX5 ⊢
    clear HF4 HR4 HN4 HA5 HB4 HX0
    have HWa := Lib.hid (walkM_any u g fo HF5.out HT5.out HG.out m i s HS3.out)
    have HHs := Lib.hid (fun W (hb : Below w5.heap.size w5 W) => V.refHas_any M L r i W (HR5.out.keep hb))
    unfold WalkP at HWa
    unfold P.credV at HWa
    obtain ⟨c0, c1, c2, c3, c4, c5, c6⟩ := HCl.out _ HB5.out
    go_wp2_with fail
    refine HWa.out.mono ?_
    rintro e w6 ⟨va, rfl, ho, hb6⟩
    have HB6 := Lib.hid hb6
    have HOa := Lib.hid (owns_lower ho (Nat.zero_le _))
    clear ho hb6 c0 c1 c2 c3 c4 c5 c6 HWa
    obtain ⟨c0, c1, c2, c3, c4, c5, c6⟩ := HCl.out _ (V.below_two HB5.out HB6.out)
    have HX6 := Lib.hid ((HB6.out.block _ (B.heap_lt HX5.out)).trans HX5.out)
    have HHr := Lib.hid (HHs.out _ HB6.out)
    unfold V.rvV at HHr
    obtain ⟨aa, la, ha⟩ := B.owns_form HOa.out
    subst ha
    go_wp2_with (refine wpList_load_row rfl 35 (.tmp 4) rfl B4 rfl 35 #[r.n, r.l, r.c, r.d, r.a, r.f] (0, 0) _ HX6.out Tryz.underlying35 rfl V.sizeRef ?_)
    refine HHr.out.mono ?_
    rintro e w7 ⟨rfl, hb7⟩
    have HB7 := Lib.hid (V.below_two HB6.out hb7)
    have HOb := Lib.hid (V.owns_keep HOa.out hb7)
    have HX7 := Lib.hid ((HB7.out.block _ (B.heap_lt HX5.out)).trans HX5.out)
    clear hb7 c0 c1 c2 c3 c4 c5 c6 HOa HX6 HHr HHs
    obtain ⟨c0, c1, c2, c3, c4, c5, c6⟩ := HCl.out _ (V.below_two HB5.out HB7.out)
    by_cases hid : 0 ≤ i ∧ i < (M.length : Int)
    · have HL := Lib.hid (show walkL (treeM M u g fo) (V.nodeEr M) m i s = wkV (treeM M u g fo) m (firstV i s) from by unfold walkL; rw [if_pos (nodeE_in hid)])
      rw [HL.out] at HOb ⊢
      rw [decide_eq_true hid]
      have HAl := Lib.hid (show (wkV (treeM M u g fo) m (firstV i s)).length ≤ 200000 from by
        have := (HG.out.walk u g fo m (firstV i s) 101).1
        show (walkV (treeM M u g fo) m 101 (firstV i s)).length ≤ _
        omega)
      have HWr := Lib.hid (rwalk_any (firstV i s) w7 HRel.out HG.out hL4 (⟨hid.1, hid.2, Int.le_refl 0, show (0 : Int) ≤ 100 by decide, HAl.out, fun x hx => by
        have h1 := (HG.out.walk u g fo m (firstV i s) 101).2 x hx
        have h2 : (firstV i s).name = s := rfl
        rw [h2] at h1
        have := HS3.out
        omega⟩ : WPre M u g m fo (firstV i s)) (HR5.out.keep HB7.out))
      unfold WPost at HWr
      unfold V.rvV P.credV visV firstV at HWr
      dsimp only at HWr
      have e9 : wkV (treeM M u g fo) m ⟨i, 0, s, s, true, false, 0⟩ = wkV (treeM M u g fo) m (firstV i s) := rfl
      rw [e9] at HWr
      generalize wkV (treeM M u g fo) m (firstV i s) = A at HOb HAl HWr ⊢
      clear HL e9
      go_wp2_with (refine wpList_load_row rfl 35 (.tmp 4) rfl B4 rfl 35 #[r.n, r.l, r.c, r.d, r.a, r.f] (0, 0) _ HX7.out Tryz.underlying35 rfl V.sizeRef ?_)
      refine HWr.out.mono ?_
      rintro e w8 ⟨vc, rfl, ho, hb8⟩
      have HB8 := Lib.hid (V.below_two HB7.out hb8)
      have HOc := Lib.hid (owns_lower ho (Nat.zero_le _))
      have HOd := Lib.hid (V.owns_keep HOb.out hb8)
      clear ho hb8 c0 c1 c2 c3 c4 c5 c6 HOb HWr
      obtain ⟨ac, lc, hc⟩ := B.owns_form HOc.out
      subst hc
      have hAl : A.length ≤ 200000 := HAl.out
      have dn : ((A.length : Int) != (A.length : Int)) = false := by simp
      go_wp2_with fail
      go_loopw [7] (WlkRel A.length w8) (fun v _ => A.length - (intOf v).toNat)
      case atStart => exact ⟨0, rfl, Nat.zero_le _, Lib.hid ⟨0, rfl⟩⟩
      case round =>
        obtain ⟨j, rfl, hj, hq⟩ := hrel
        obtain ⟨q, hq⟩ := hq.out
        have HQ := Lib.hid hq
        have HBq := Lib.hid (show Below w8.heap.size w8 wr from by rw [hq]; exact drewn_below (Below.refl _ _))
        clear hq
        by_cases hlt : j < A.length
        · have dj : decide ((j : Int) < (A.length : Int)) = true := decide_eq_true (by omega)
          obtain ⟨x, hx⟩ : ∃ x, A[j]? = some x := ⟨_, List.getElem?_eq_getElem hlt⟩
          have HX := Lib.hid hx
          obtain ⟨ga, l2, hv, _, _⟩ := B.owns_some HOd.out (by omega)
          simp only [Value.slice.injEq] at hv
          obtain ⟨rfl, _, rfl⟩ := hv
          obtain ⟨gc, l3, hv, _, _⟩ := B.owns_some HOc.out (by omega)
          simp only [Value.slice.injEq] at hv
          obtain ⟨rfl, _, rfl⟩ := hv
          have HRx := Lib.hid (fun W (hb : ∃ n, W = wr.drewN n) => range_vis (V.owns_keep HOd.out (show Below w8.heap.size w8 W from by obtain ⟨n, rfl⟩ := hb; exact drewn_below HBq.out)) HX.out)
          have HRy := Lib.hid (fun W (hb : ∃ n, W = wr.drewN n) => range_vis (V.owns_keep HOc.out (show Below w8.heap.size w8 W from by obtain ⟨n, rfl⟩ := hb; exact drewn_below HBq.out)) HX.out)
          clear hx
          go_upto_region 13 with fail
          refine wp_region_quiet_lit (by kernel_rfl) (by kernel_rfl) ?_
          repeat (first | go_big_quiet_skip | (go_big_quiet_want; go_big_quiet_op; go_big_quiet_on))
          go_big_quiet_want
          refine quiet_load_mid 42 (.tmp 70) rfl ga (j * 7) rfl (visC x) _ HRx.out Tryz.underlying42 rfl sizeVis' ?_
          try simp only [Act.put, List.setIfInBounds_toArray, List.set_cons_zero, List.set_cons_succ]
          go_big_quiet_on
          repeat (first | go_big_quiet_skip | (go_big_quiet_want; go_big_quiet_op; go_big_quiet_on))
          go_big_quiet_want
          refine quiet_load_mid 42 (.tmp 74) rfl gc (j * 7) rfl (visC x) _ HRy.out Tryz.underlying42 rfl sizeVis' ?_
          try simp only [Act.put, List.setIfInBounds_toArray, List.set_cons_zero, List.set_cons_succ]
          go_big_quiet_on
          unfold visC
          repeat (first | go_big_quiet_skip | (go_big_quiet_want; go_big_quiet_op; go_big_quiet_on))
          refine wpQuiet_nil ?_
          rintro _ ⟨nq, rfl⟩
          go_wp2_with fail
          go_roundw
          case rel => exact ⟨j + 1, by simp, by omega, Lib.hid ⟨q + nq, by rw [HQ.out, World.drewN_drewN]⟩⟩
          case measure => simp [intOf]; omega
        · have dj : decide ((j : Int) < (A.length : Int)) = false := decide_eq_false (by omega)
          go_wp2_with fail
          go_ret
          exact ⟨rfl, V.below_two HBw.out (V.below_two HB8.out HBq.out)⟩
    · have HL := Lib.hid (show walkL (treeM M u g fo) (V.nodeEr M) m i s = [] from by unfold walkL; rw [if_neg (nodeE_out hid)])
      rw [HL.out] at HOb ⊢
      rw [decide_eq_false hid]
      have e8 : (([] : List Vis).length : Int) = 0 := rfl
      rw [List.length_nil] at HOb ⊢
      go_wp2_with fail
      go_ret
      exact ⟨rfl, V.below_two HBw.out HB7.out⟩
end Go.Proofs.YtcjbnjoomgagjaaGreatDoor.G
