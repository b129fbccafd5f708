/-
  That the law FactsRows returns true. Conditions: the tables lie; what came in lies in memory.
-/
import Derived.Test.YtknfhphhcnbndaaGreatDoorFJRowP
import Derived.Test.YtknfhphhcnbndaaGreatDoorFJTable
import Derived.Test.YtknfhphhcnbndaaGreatDoorFJRefTab
import Derived.Test.YtknfhphhcnbndaaGreatDoorFJMem
import Derived.Test.YtknfhphhcnbndaaGreatDoorFJRefRows
import Derived.Test.YtknfhphhcnbndaaGreatDoorFVArg
import Derived.Test.YtknfhphhcnbndaaGreatDoorFVRefAsk
import Derived.Deep.QuietTactic
import Derived.BigQuiet
set_option linter.unusedVariables false
set_option linter.unusedSimpArgs false
namespace Go.Proofs.YtknfhphhcnbndaaGreatDoor.J
open List renaming setIfInBounds_toArray → lt, set_cons_zero → l0, set_cons_succ → ls
open Go.Proofs.YtknfhphhcnbndaaGreatDoor.B
open Go.RowKit

theorem own_texts {w : World} {b : Nat} {v : Value} {x : List ByteArray} (h : w.ownsRow b 9 1 v x.length (strs x)) (h0 : 0 < x.length) : ∃ g cap, v = .slice (some ⟨g, 0, none⟩) x.length cap ∧ g < w.heap.size ∧ ∀ (k : Nat) (S : ByteArray), x[k]? = some S → w.cell? ⟨g, k, none⟩ = some (.string S) := by
  obtain ⟨g, cap, rfl, _, _⟩ := V.owns_some h h0
  refine ⟨g, cap, rfl, (h.lt g rfl).2, fun k S hS => V.owns_cell h ?_⟩
  unfold strs
  rw [List.getElem?_map, hS]
  rfl
theorem runM_riJ : ∀ (cs : List V.Chg) (M : List V.Nd), V.RI M → V.DevInv M → V.RI (V.runM cs M)
  | [], M, h, _ => h
  | c :: r, M, h, hd => runM_riJ r (V.doM M c) (h.do_ hd) (V.devInv_do hd)
theorem runM_duJ : ∀ (cs : List V.Chg) (M : List V.Nd), V.DU M → V.DU (V.runM cs M)
  | [], M, h => h
  | c :: r, M, h => runM_duJ r (V.doM M c) (V.du_do h)
theorem pct_bd (n d : Int) : I64 (N.pctZ n d) := by
  unfold N.pctZ
  by_cases h1 : n < 1 ∨ d < 1
  · rw [if_pos h1]; unfold I64; omega
  · rw [if_neg h1]
    have h2 : 0 ≤ 100 * n / d := Int.ediv_nonneg (by omega) (by omega)
    by_cases h3 : 9223372036854775807 ≤ 100 * n / d
    · rw [if_pos h3]; unfold I64; omega
    · rw [if_neg h3]
      split <;> (unfold I64; omega)
/-- What the law says of a row. -/
def SaidR (r : Rw) : Prop := OkR r ∧ 0 ≤ r.used ∧ (r.used ≤ r.all → r.used + r.left = r.all) ∧ (r.all < r.used → r.left = 0)
theorem rowsL_mem {M : List V.Nd} {all : Int} {r : Rw} : ∀ (l : List Int) (i : Nat), r ∈ rowsL M all l i → ∃ (d f : Int), 0 ≤ d ∧ d ≤ ((i + l.length : Nat) : Int) + 1 ∧ r = rowJ M all d f
  | [], i, h => by cases h
  | f :: t, i, h => by
    rw [rowsL] at h
    rcases List.mem_cons.1 h with h | h
    · exact ⟨_, f, by omega, by rw [List.length_cons]; omega, h⟩
    · obtain ⟨d, g, h1, h2, h3⟩ := rowsL_mem t (i + 1) h
      exact ⟨d, g, h1, by rw [List.length_cons]; omega, h3⟩
theorem where_size {M : List V.Nd} (hI : V.RI M) (hl : M.length ≤ 300) (f : Int) : (whereJ M f).size ≤ 1000000 := by
  unfold whereJ
  split
  · rename_i h
    have h1 := V.path_len (V.dirN_good hI h.choose_spec)
    have h2 := dirN_len hI h.choose_spec
    have h3 : f.toNat ≤ 300 := by
      have := V.kind_lt (V.dirN_kind hI h.choose_spec)
      omega
    omega
  · decide
theorem said_rows {M : List V.Nd} {all : Int} (hG : GoodJ M) (hI : V.RI M) (ha : I64 all) : ∀ r ∈ allRows M all, SaidR r := fun r hr => by
  unfold allRows at hr
  obtain ⟨d, f, h0, h1, rfl⟩ := rowsL_mem _ _ hr
  have hd := V.devL_len M 0
  have hf := hG.few
  have hu := used_bd hG.ok d
  have hp := pct_bd (usedJ M d) (N.cutZ (usedJ M d + max (max all 0 - usedJ M d) 0))
  unfold I64 at ha
  refine ⟨⟨?_, ?_, ?_, ?_, hp, where_size hI hf f⟩, hu.1, fun h => ?_, fun h => ?_⟩
  · show I64 d
    unfold I64
    omega
  · show I64 (max all 0)
    unfold I64
    omega
  · show I64 (usedJ M d)
    unfold I64
    omega
  · show I64 (max (max all 0 - usedJ M d) 0)
    unfold I64
    omega
  · change usedJ M d ≤ max all 0 at h
    show usedJ M d + max (max all 0 - usedJ M d) 0 = max all 0
    omega
  · change max all 0 < usedJ M d at h
    show max (max all 0 - usedJ M d) 0 = 0
    omega
set_option maxRecDepth 100000 in
set_option maxHeartbeats 16000000 in
theorem rowsLaw_any (cs : List V.Chg) (a : Option Addr) (cap : Nat) (all : Int) (w : World) (H : V.IsChgs w a cs) (ht : FTab w) (hl : cs.length ≤ 9223372036854775807) (hw : ∀ c ∈ cs, V.WideC c) (h1 : -9223372036854775808 ≤ all) (h2 : all ≤ 9223372036854775807) :
    Calls Tryz.prog 3 #[.slice a cs.length cap, .int .i64 all] w fun e w' => e = .returned (.bool true) ∧ Below w.heap.size w w' := by
  have HFw := Lib.hid (fun X (hb : Below w.heap.size w X) => V.few_any cs a cap 50 X (H.keep hb) hl (fun c hc => ⟨(hw c hc).name, (hw c hc).text⟩))
  have HMd := Lib.hid (fun (X : World) (hb : Below w.heap.size w X) (h4 : cs.length ≤ 400) (hf : V.FewL cs) => V.made_any cs a cap X (H.keep hb) h4 hf (fun c hc => ⟨(hw c hc).lo, (hw c hc).hi⟩))
  have HAw := Lib.hid (fun (X : World) (hb : Below w.heap.size w X) => awoken_any X (ht.keep hb))
  have HGd := Lib.hid (fun (h4 : cs.length ≤ 400) (hf : V.FewL cs) => good_run cs h4 hf (fun c hc => ⟨⟨(hw c hc).lo, (hw c hc).hi⟩, (hw c hc).a, (hw c hc).b⟩))
  have HRi := Lib.hid (runM_riJ cs V.newM V.ri_new V.devInv_new)
  have HDu := Lib.hid (runM_duJ cs V.newM V.du_new)
  have HKi := Lib.hid (runM_ki cs V.newM ki_new)
  have HEs := Lib.hid (fun (h4 : cs.length ≤ 400) => show V.FewE (V.runM cs V.newM) from fun n hn => by have := ((V.runM_small cs V.newM 0 V.new_small).2 n hn).2.2; omega)
  have HTn := Lib.hid (fun (X : World) (hb : Below w.heap.size w X) => (ht.keep hb).n)
  have HAl := Lib.hid (show I64 all from ⟨h1, h2⟩)
  clear H ht hw h1 h2
  go_enter Tryz.func3, Tryz.ntmps3
  go_wp2_with fail
  refine (HAw.out _ (Below.refl _ _)).mono ?_
  rintro e w1 ⟨rfl, hb1⟩
  have HB1 := Lib.hid hb1
  clear hb1
  go_wp2_with fail
  refine (HFw.out _ HB1.out).mono ?_
  rintro e w3 ⟨b, rfl, hb, hw3⟩
  have HBb := Lib.hid hb
  subst hw3
  clear hb HFw
  cases b with
  | false =>
    go_wp2_with fail
    refine (HAw.out _ HB1.out).mono ?_
    rintro e w4 ⟨rfl, hb4⟩
    have HB4 := Lib.hid (below_two HB1.out hb4)
    clear hb4
    go_wp2_with fail
    go_ret
    exact ⟨rfl, HB4.out⟩
  | true =>
    obtain ⟨hfl, hln⟩ := HBb.out.1 rfl
    have HFl := Lib.hid hfl
    clear hfl HBb
    have hl6 : cs.length ≤ 50 := by omega
    have HG := Lib.hid (HGd.out (by omega) HFl.out)
    have HE := Lib.hid (HEs.out (by omega))
    have HM := Lib.hid (HMd.out w3 HB1.out (by omega) HFl.out)
    clear HMd HGd HFl HAw HEs
    generalize V.runM cs V.newM = M at HM HG HE HRi HDu HKi
    go_upto_region 3 with fail
    go_wp2_with fail
    refine HM.out.mono ?_
    rintro e w6 ⟨p, r, L, rfl, T6, hL⟩
    have HT6 := Lib.hid T6
    have HN6 := Lib.hid (V.rs_one T6.rs)
    clear T6 HM
    unfold V.rvV
    go_upto_region 4 with (refine wpList_store_row rfl 31 (.tmp 6) (.tmp 22) rfl w6.heap.size #[r.n, r.l, r.c, r.d, r.a, r.f] rfl rfl 31 V.nilsR (heap_alloc_new _ _) V.sizeRef rfl HN6.out ?_; rw [World.setRow_alloc_new])
    have HA7 := Lib.hid (show Below w6.heap.size w6 (w6.alloc (.cells #[r.n, r.l, r.c, r.d, r.a, r.f] 31)) from (Below.refl _ _).alloc (Nat.le_refl _) _)
    have HX7 := Lib.hid (heap_alloc_new w6 (.cells #[r.n, r.l, r.c, r.d, r.a, r.f] 31))
    generalize w6.alloc (.cells #[r.n, r.l, r.c, r.d, r.a, r.f] 31) = w7 at HA7 HX7 ⊢
    have HT7 := Lib.hid (HT6.out.keep HA7.out)
    have HB7 := Lib.hid (show Below w.heap.size w w7 from below_two HB1.out (HT6.out.fs.below.trans (HA7.out.mono HT6.out.fs.below.size)))
    generalize w6.heap.size = B6 at HX7 ⊢
    clear HT6 HA7
    have HXs := Lib.hid (show ∀ X, Below w7.heap.size w7 X → X.heap[B6]? = some (.cells #[r.n, r.l, r.c, r.d, r.a, r.f] 31) from fun X hX => V.box_keep2 HX7.out hX)
    have HRp := Lib.hid (fun (X : World) (hb : Below w7.heap.size w7 X) => rows_any all _ X (HT7.out.keep hb).fs HG.out HE.out HRi.out HDu.out HKi.out HAl.out)
    have HRr := Lib.hid (fun (X : World) (hb : Below w7.heap.size w7 X) => refRows_any r all X (HT7.out.keep hb).rs HT7.out.rel (by omega) HG.out HRi.out HDu.out HKi.out HAl.out)
    have HSd := Lib.hid (said_rows HG.out HRi.out HAl.out)
    have HLn := Lib.hid (show (allRows M all).length ≤ 300 from by unfold allRows; rw [rowsL_len]; have := V.devL_len M 0; have := HG.out.few; omega)
    clear HT7 HX7 HN6 HG HE HRi HDu HKi HAl HB1
    generalize allRows M all = R at HRp HRr HSd HLn
    unfold V.rvV at HRr
    obtain ⟨rn, rl, rc, rd, ra, rf⟩ := r
    dsimp only at HXs HRr ⊢
-- TILL 4
    refine Till.region (z := 1000) (S := fun w' => Below w7.heap.size w7 w') (by kernel_rfl) ((Below.refl _ _).drew) (fun hHeld => ?_)
    refine Till.tk 0 (oi := ⟨some 23, .move (.tmp 5), 25, "law.go:39", #[], none⟩) (.pointer (some ⟨p, 0, none⟩)) rfl (fun w0 hS0 => ?_) ?_
    · go_simp
    try simp only [Act.put, lt, l0, ls]
    refine Till.tk 1 (oi := ⟨some 24, .move (.tmp 1), 2, "law.go:39", #[], none⟩) (.int .i64 all) rfl (fun w0 hS0 => ?_) ?_
    · go_simp
    try simp only [Act.put, lt, l0, ls]
    refine Till.ty 3 (oi := ⟨some 26, .load 31 (.tmp 6), 31, "law.go:39", #[], none⟩) (.agg #[rn, rl, rc, rd, ra, rf]) rfl (yieldsIf_load_mid (by rfl) 31 (.tmp 6) rfl B6 0 rfl [rn, rl, rc, rd, ra, rf] _ (fun w0 hS0 => range_of (HXs.out _ hS0)) Tryz.underlying31 rfl sizeFs6) ?_
    try simp only [Act.put, lt, l0, ls]
    refine Till.tk 4 (oi := ⟨some 27, .move (.tmp 1), 2, "law.go:39", #[], none⟩) (.int .i64 all) rfl (fun w0 hS0 => ?_) ?_
    · go_simp
    try simp only [Act.put, lt, l0, ls]
    refine Till.tn 2 (o := ⟨some 25, .call ⟨.value (.func 16), #[.tmp 23, .tmp 24], #[25, 2]⟩, 34, "law.go:39", #[⟨0, .data⟩, ⟨1, .data⟩], none⟩) rfl (fun K hK => ?_)
    go_simp
    refine (HRp.out _ hHeld).mono ?_
    rintro e w8 ⟨va, rfl, ho8, hb8⟩
    have hH8 : Below w7.heap.size w7 w8 := below_two hHeld hb8
    have HO8 := Lib.hid (owns_low ho8 hHeld.size)
    obtain ⟨ao, ac, hva⟩ := owns_form HO8.out
    subst hva
    clear ho8 hb8
    go_wp2_with fail
    refine hK.out _ _ (fun _ => hH8) ?_
    clear hK K
    try simp only [Act.put, lt, l0, ls]
    refine Till.tn 5 (o := ⟨some 28, .call ⟨.value (.func 17), #[.tmp 26, .tmp 27], #[31, 2]⟩, 34, "law.go:39", #[⟨3, .data⟩, ⟨4, .data⟩, ⟨2, .chain⟩], none⟩) rfl (fun K hK => ?_)
    go_simp
    refine (HRr.out _ hH8).mono ?_
    rintro e w9 ⟨vb, rfl, ho9, hb9⟩
    have hH9 : Below w7.heap.size w7 w9 := below_two hH8 hb9
    have HO9 := Lib.hid (owns_low ho9 hH8.size)
    have HOa := Lib.hid (owns_to HO8.out hb9)
    obtain ⟨bo, bc, hvb⟩ := owns_form HO9.out
    subst hvb
    clear ho9 hb9
    go_wp2_with fail
    refine hK.out _ _ (fun _ => hH9) ?_
    clear hK K
    try simp only [Act.put, lt, l0, ls]
    refine Till.tk 6 (oi := ⟨some 7, .assign (.tmp 25), 34, "law.go:39", #[⟨2, .data⟩, ⟨5, .chain⟩, ⟨0, .phase⟩, ⟨1, .phase⟩, ⟨2, .phase⟩, ⟨3, .textOnly .lateStores⟩, ⟨4, .textOnly .lateStores⟩, ⟨5, .textOnly .lateStoresUnsure⟩], none⟩) (.slice ao R.length ac) rfl (fun w0 hS0 => ?_) ?_
    · go_simp
    try simp only [Act.put, lt, l0, ls]
    refine Till.tk 7 (oi := ⟨some 8, .assign (.tmp 28), 34, "law.go:39", #[⟨5, .data⟩, ⟨6, .chain⟩, ⟨0, .phase⟩, ⟨1, .phase⟩, ⟨2, .phase⟩, ⟨3, .phase⟩, ⟨4, .phase⟩, ⟨5, .phase⟩, ⟨6, .phase⟩], none⟩) (.slice bo R.length bc) rfl (fun w0 hS0 => ?_) ?_
    · go_simp
    try simp only [Act.put, lt, l0, ls]
    refine Till.done (by kernel_rfl) ?_
-- TILL 4 END
    have HB9 := Lib.hid hH9
    have HLa := Lib.hid (show RowL 6 rwC w9 ao R from by
      obtain ⟨x1, x2, e1, q, _⟩ := RowL.of_owns rwC_len HOa.out
      simp only [Value.slice.injEq] at e1
      rw [e1.1]
      exact q)
    have HLb := Lib.hid (show RowL 6 rwC w9 bo R from by
      obtain ⟨x1, x2, e1, q, _⟩ := RowL.of_owns rwC_len HO9.out
      simp only [Value.slice.injEq] at e1
      rw [e1.1]
      exact q)
    clear hHeld hH8 hH9 HO8 HOa HO9 HRp HRr HXs
    have dl : ((R.length : Int) != (R.length : Int)) = false := bne_self_eq_false _
    go_upto_region 8 with fail
    clear dl
    go_wp2_with fail
    go_loopw [9] (fun v wr => ∃ k : Nat, k ≤ R.length ∧ v = .int .i64 (k : Int) ∧ Hid (Below w9.heap.size w9 wr)) (fun v _ => R.length - (intOf v).toNat)
    case atStart => exact ⟨0, Nat.zero_le _, rfl, Lib.hid (Below.refl _ _)⟩
    case round =>
      obtain ⟨k, hk, rfl, HB⟩ := hrel
      by_cases hlt : k < R.length
      · have d1 : decide ((k : Int) < (R.length : Int)) = true := decide_eq_true (by omega)
        have iw1 : IntKind.i64.wrap ((k : Int) + 1) = (k : Int) + 1 := IntWalk.i64_in _ (by have := HLn.out; omega)
        obtain ⟨x, hx⟩ : ∃ x, R[k]? = some x := ⟨_, List.getElem?_eq_getElem hlt⟩
        obtain ⟨hok, hu0, hsum, hno⟩ := HSd.out x (List.mem_of_getElem? hx)
        obtain ⟨g1, o1, hra, _, _⟩ := (HLa.out.keep HB.out).at_ hx
        subst hra
        obtain ⟨g2, o2, hrb, _, _⟩ := (HLb.out.keep HB.out).at_ hx
        subst hrb
        have HRx := Lib.hid (show ∀ W : World, (∃ n, W = wr.drewN n) → W.rangeAt g1 (o1 + k * 6) (rwC x) from fun W ⟨n, hW⟩ => by
          obtain ⟨b', off', e, _, q⟩ := (HLa.out.keep (below_drewNb (n := n) HB.out)).at_ hx
          simp only [Option.some.injEq, Addr.mk.injEq] at e
          obtain ⟨rfl, rfl, _⟩ := e
          rw [hW]
          exact q)
        have HRy := Lib.hid (show ∀ W : World, (∃ n, W = wr.drewN n) → W.rangeAt g2 (o2 + k * 6) (rwC x) from fun W ⟨n, hW⟩ => by
          obtain ⟨b', off', e, _, q⟩ := (HLb.out.keep (below_drewNb (n := n) HB.out)).at_ hx
          simp only [Option.some.injEq, Addr.mk.injEq] at e
          obtain ⟨rfl, rfl, _⟩ := e
          rw [hW]
          exact q)
        have hx1 := hok.all
        have hx2 := hok.used
        have hx3 := hok.left
        clear hok hx
        obtain ⟨xd, xa, xu, xl, xp, xt⟩ := x
        dsimp only at hx1 hx2 hx3 hu0 hsum hno
        unfold I64 at hx1 hx2 hx3
        have HC := Lib.hid (show ∀ W : World, (∃ n, W = wr.drewN n) → W.cell? ⟨g1, o1 + k * 6 + 1, none⟩ = some (.int .i64 xa) ∧ W.cell? ⟨g1, o1 + k * 6 + 2, none⟩ = some (.int .i64 xu) ∧ W.cell? ⟨g1, o1 + k * 6 + 3, none⟩ = some (.int .i64 xl) from fun W hW => ⟨HRx.out W hW 1 _ rfl, HRx.out W hW 2 _ rfl, HRx.out W hW 3 _ rfl⟩)
        have c1 := (HC.out wr ⟨0, (World.drewN_zero wr).symm⟩).1
        have c2 := (HC.out wr ⟨0, (World.drewN_zero wr).symm⟩).2.1
        have c3 := (HC.out wr ⟨0, (World.drewN_zero wr).symm⟩).2.2
        clear HC
        go_upto_region 10 with fail
        rcases Decidable.em (xu ≤ xa) with hle | hle
        · have d2 : decide (xu ≤ xa) = true := decide_eq_true hle
          have d3 : decide (xa < xu) = false := decide_eq_false (by omega)
          have iw : IntKind.i64.wrap (xu + xl) = xa := by rw [hsum hle]; exact IntWalk.i64_in _ (by omega)
          clear hsum hno hle
          refine wp_region_quiet_lit (by kernel_rfl) (by kernel_rfl) ?_
          repeat (first | go_big_quiet_skip | (go_big_quiet_want; go_big_quiet_op; go_big_quiet_on))
          go_big_quiet_want
          refine quiet_row 38 (.tmp 42) rfl g1 (o1 + k * 6) rfl [.int .i64 xd, .int .i64 xa, .int .i64 xu, .int .i64 xl, .int .i64 xp, .string xt] _ HRx.out Tryz.underlying38 rfl sizeRw ?_
          try simp only [Act.put, lt, l0, ls]
          go_big_quiet_on
          repeat (first | go_big_quiet_skip | (go_big_quiet_want; go_big_quiet_op; go_big_quiet_on))
          go_big_quiet_want
          refine quiet_row 38 (.tmp 46) rfl g2 (o2 + k * 6) rfl [.int .i64 xd, .int .i64 xa, .int .i64 xu, .int .i64 xl, .int .i64 xp, .string xt] _ HRy.out Tryz.underlying38 rfl sizeRw ?_
          try simp only [Act.put, lt, l0, ls]
          go_big_quiet_on
          repeat (first | go_big_quiet_skip | (go_big_quiet_want; go_big_quiet_op; go_big_quiet_on))
          refine wpQuiet_nil ?_
          rintro _ ⟨nq, rfl⟩
          have HBn := Lib.hid (show Below w9.heap.size w9 (wr.drewN nq) from below_drewNb HB.out)
          go_wp2_with fail
          go_roundw
          case rel => exact ⟨k + 1, by omega, by simp, HBn⟩
          case measure => simp [intOf]; omega
        · obtain rfl : xl = 0 := hno (by omega)
          have d2 : decide (xu ≤ xa) = false := decide_eq_false hle
          have d3 : decide (xa < xu) = true := decide_eq_true (by omega)
          clear hsum hno hle
          refine wp_region_quiet_lit (by kernel_rfl) (by kernel_rfl) ?_
          repeat (first | go_big_quiet_skip | (go_big_quiet_want; go_big_quiet_op; go_big_quiet_on))
          go_big_quiet_want
          refine quiet_row 38 (.tmp 42) rfl g1 (o1 + k * 6) rfl [.int .i64 xd, .int .i64 xa, .int .i64 xu, .int .i64 0, .int .i64 xp, .string xt] _ HRx.out Tryz.underlying38 rfl sizeRw ?_
          try simp only [Act.put, lt, l0, ls]
          go_big_quiet_on
          repeat (first | go_big_quiet_skip | (go_big_quiet_want; go_big_quiet_op; go_big_quiet_on))
          go_big_quiet_want
          refine quiet_row 38 (.tmp 46) rfl g2 (o2 + k * 6) rfl [.int .i64 xd, .int .i64 xa, .int .i64 xu, .int .i64 0, .int .i64 xp, .string xt] _ HRy.out Tryz.underlying38 rfl sizeRw ?_
          try simp only [Act.put, lt, l0, ls]
          go_big_quiet_on
          repeat (first | go_big_quiet_skip | (go_big_quiet_want; go_big_quiet_op; go_big_quiet_on))
          refine wpQuiet_nil ?_
          rintro _ ⟨nq, rfl⟩
          have HBn := Lib.hid (show Below w9.heap.size w9 (wr.drewN nq) from below_drewNb HB.out)
          go_wp2_with fail
          go_roundw
          case rel => exact ⟨k + 1, by omega, by simp, HBn⟩
          case measure => simp [intOf]; omega
      · have hkn : k = R.length := by omega
        have d1 : decide ((k : Int) < (R.length : Int)) = false := decide_eq_false (by omega)
        have HOk := Lib.hid (show ∀ r ∈ R, OkR r from fun r hr => (HSd.out r hr).1)
        have h0 : 0 < (tableJ R).length := by rw [table_len]; omega
        have hle : (tableJ R).length ≤ 1000000 := by have := HLn.out; rw [table_len]; omega
        go_upto_region 12 with fail
        have HTa := Lib.hid (table_any R ao ac wr (HTn.out _ (below_two (below_two HB7.out HB9.out) HB.out)) (HLa.out.keep HB.out) (by have := HLn.out; omega) HOk.out)
        have HTr := Lib.hid (fun (X : World) (hb : Below w9.heap.size w9 X) => refTable_any R bo bc X (HLb.out.keep hb) (by have := HLn.out; omega) HOk.out)
        have HBw := Lib.hid (show Below w.heap.size w wr from below_two (below_two HB7.out HB9.out) HB.out)
        clear HOk HLa HLb HSd HTn HLn
        generalize tableJ R = Z at HTa HTr h0 hle
        go_wp2_with (first
          | (go_at_call 19; refine HTa.out.mono ?_; rintro e w2 ⟨v2, rfl, ho2, hb2⟩; obtain ⟨g2, c2, rfl, hg2, hC2⟩ := own_texts ho2 h0; have HG2 := Lib.hid hg2; have HC2 := Lib.hid hC2; have HB2 := Lib.hid hb2; clear ho2 hg2 hC2 hb2)
          | (go_at_call 20; refine (HTr.out _ (below_two HB.out HB2.out)).mono ?_; rintro e w3 ⟨v3, rfl, ho3, hb3⟩; obtain ⟨g3, c3, rfl, hg3, hC3⟩ := own_texts ho3 h0; have HG3 := Lib.hid hg3; have HC3 := Lib.hid hC3; have HB3 := Lib.hid hb3; clear ho3 hg3 hC3 hb3)
          | (go_at_call 18; refine (same_any Z _ _ _ _ _ (Nat.lt_of_lt_of_le HG2.out HB3.out.size) HG3.out (fun k S h => (HB3.out.cell (p := ⟨_, k, none⟩) HG2.out).trans (HC2.out k S h)) HC3.out hle).mono ?_; rintro e w4 ⟨rfl, hb4⟩; have HB4 := Lib.hid (below_two (below_two (below_two HBw.out HB2.out) HB3.out) hb4); clear hb4))
        go_ret
        exact ⟨rfl, HB4.out⟩
end Go.Proofs.YtknfhphhcnbndaaGreatDoor.J
