/-
  That the law VfsSame returns true. Conditions: the changes that came in lie in memory.
-/
import Derived.Test.YtemjlamgnkjejaaVMade
import Derived.Test.YtemjlamgnkjejaaVSameF
import Derived.Deep.CutRange
set_option linter.unusedVariables false
namespace Go.Proofs.Ytemjlamgnkjejaa
open Go.RowKit

theorem sameM_len_no {a b : List Nd} (h : a.length ≠ b.length) : sameM a b = false := by
  rw [← Bool.not_eq_true]
  exact fun e => h (sameM_len e)
theorem alikeB_ents {n m : Nd} (h : n.ents.length ≠ m.ents.length) : alikeB n m = false := by
  rw [← Bool.not_eq_true]
  intro e
  unfold alikeB at e
  simp only [Bool.and_eq_true] at e
  exact h (entsEq_len e.2.2.2.2)
theorem sameM_do {M : List Nd} {c : Chg} (hw : wrongM M c = 0) (hk : ¬ (4 ≤ c.kind ∧ c.kind ≠ 7)) : sameM M (doM M c) = false := by
  unfold doM
  rw [if_pos hw]
  unfold wrongM at hw
  rcases wrong_cases hw with ⟨x, hx, hkind, _⟩ | ⟨h2, x, y, hx, hy, hyk⟩ | ⟨h7, _, y, hy⟩ | h
  · apply sameM_len_no
    unfold carryM
    rcases hkind with h | ⟨h, _⟩ | h
    · rw [if_pos h]
      simp [builtM]
    · rw [if_neg (by omega), if_pos h]
      simp [builtM]
    · rw [if_neg (by omega), if_neg (by omega), if_neg (by omega), if_pos h]
      simp [builtM]
  · obtain ⟨k, hk', hkx⟩ := atM_some hx
    have hyk' : ¬ (atM M c.to).elim 0 (·.kind) = 2 := by rw [hy]; exact hyk
    unfold carryM
    rw [if_neg (by omega), if_neg (by omega), if_pos h2, if_neg hyk']
    refine sameM_no (k := k) (x := x) (y := if c.to.toNat = k then moreLinks (addEnt c.name c.to x) else addEnt c.name c.to x) hkx ?_ (alikeB_ents ?_)
    · show ((M.modify c.at_.toNat (addEnt c.name c.to)).modify c.to.toNat moreLinks)[k]? = _
      rw [List.getElem?_modify, List.getElem?_modify, hkx, hk', Int.toNat_natCast]
      simp only [Option.map_eq_map, Option.map_some, if_true]
    · split <;> simp [moreLinks, addEnt]
  · apply sameM_len_no
    unfold carryM
    rw [if_neg (by omega), if_neg (by omega), if_neg (by omega), if_neg (by omega), if_pos h7]
    simp [coveredM]
  · exfalso
    omega

theorem small_fewE {M : List Nd} {k : Nat} (h : Small M k) (hk : k ≤ 900000) : FewE M := fun n hn => by have := (h.2 n hn).2.2; omega

theorem listL_len {M : List Nd} {i : Int} (h : FewE M) : (listL M i).length ≤ 1000000 := by
  unfold listL
  cases ha : atM M i with
  | none => exact Nat.zero_le _
  | some n =>
    obtain ⟨k, _, hn⟩ := atM_some ha
    have := h n (List.mem_of_getElem? hn)
    dsimp only
    repeat' split
    all_goals first | exact Nat.zero_le _ | exact this
theorem chgL_one (c : Chg) : (chgL c).toArray.all (·.oneCell') = true := all_oneCell_toArray (fun u hu => by
  simp only [chgL, List.mem_cons, List.mem_nil_iff, or_false] at hu
  rcases hu with rfl | rfl | rfl | rfl | rfl | rfl | rfl | rfl
  all_goals rfl)
/-- The first loop: nothing but new memory. -/
def LawSRel (M : List Nd) (W : World) (v : Value) (wr : World) : Prop := ∃ k : Nat, k ≤ M.length + 2 ∧ v = .int .i64 ((k : Int) - 1) ∧ Hid (Below W.heap.size W wr)
/-- The second: stores into a new row. -/
def LawSIn (W : World) (x : Value) (n : Nat) (v : Value) (wr : World) : Prop := ∃ j : Nat, j ≤ n ∧ v = .int .i64 (j : Int) ∧ Hid (Below W.heap.size W wr) ∧ Hid (∃ xs, wr.ownsRow W.heap.size 60 2 x n xs)

set_option maxRecDepth 100000 in
set_option maxHeartbeats 8000000 in
theorem sames_any (cs : List Chg) (c : Chg) (a : Option Addr) (cap : Nat) (w : World) (H : IsChgs w a cs) (hl : cs.length ≤ 9223372036854775807) (hz : ∀ c ∈ cs, (c.name.size ≤ 9223372036854775807 ∧ c.text.size ≤ 9223372036854775807) ∧ -9223372036854775808 ≤ c.n ∧ c.n ≤ 9223372036854775807)
    (hc : (c.name.size ≤ 9223372036854775807 ∧ c.text.size ≤ 9223372036854775807) ∧ -9223372036854775808 ≤ c.n ∧ c.n ≤ 9223372036854775807) :
    Calls Try.prog 5 #[.slice a cs.length cap, chgV c] w fun e w' => e = .returned (.bool true) ∧ Below w.heap.size w w' := by
  have HFw := Lib.hid (fun (W : World) (hb : Below w.heap.size w W) => few_any cs a cap 40 W (H.keep hb) hl (fun c hc => (hz c hc).1))
  have HMd := Lib.hid (fun (W : World) (hb : Below w.heap.size w W) (h4 : cs.length ≤ 400) (hf : FewL cs) => made_any cs a cap W (H.keep hb) h4 hf (fun c hc => (hz c hc).2))
  have HHc := Lib.hid hc
  have HCV := Lib.hid (show chgV c = .agg (chgL c).toArray from rfl)
  clear H hz hc
  rw [HCV.out]
  have HC1 := Lib.hid (chgL_one c)
  go_enter Try.func5, Try.ntmps5
  go_upto_region 1 with fail
  have HB0 := Lib.hid (show Below w.heap.size w (w.alloc (.cells (chgL c).toArray 43)) from (Below.refl _ _).alloc (Nat.le_refl _) _)
  have HX0 := Lib.hid (heap_alloc_new w (.cells (chgL c).toArray 43))
  generalize w.alloc (.cells (chgL c).toArray 43) = w0 at HB0 HX0 ⊢
  go_wp2_with fail
  refine (awake_any _).mono ?_
  rintro e w2 ⟨rfl, hb2⟩
  have HB2 := Lib.hid (below_two HB0.out hb2)
  have HX2 := Lib.hid (show w2.heap[w.heap.size]? = some (.cells (chgL c).toArray 43 (0, 0)) from (hb2.block _ (heap_lt HX0.out)).trans HX0.out)
  clear hb2
  go_wp2_with fail
  refine (HFw.out _ HB2.out).mono ?_
  rintro e w3 ⟨b, rfl, hb, rfl⟩
  have HBb := Lib.hid hb
  clear hb
  cases b with
  | false =>
    go_wp2_with fail
    refine (awake_any _).mono ?_
    rintro e w4 ⟨rfl, hb4⟩
    have HB4 := Lib.hid (below_two HB2.out hb4)
    clear hb4
    go_wp2_with fail
    go_ret
    exact ⟨rfl, HB4.out⟩
  | true =>
    obtain ⟨f1, f2⟩ := HBb.out.1 rfl
    have HFL := Lib.hid f1
    clear f1
    have hl6 : cs.length ≤ 40 := by omega
    obtain ⟨q0, q1, q2, q3, q4, q5, q6, q7⟩ := chg_cells HX2.out
    go_wp2_with fail
    have HB4 := Lib.hid (show Below w.heap.size w (w3.alloc (chgBox c)) from HB2.out.alloc HB2.out.size _)
    have HX4 := Lib.hid (heap_alloc_new w3 (chgBox c))
    have HY4 := Lib.hid (show (w3.alloc (chgBox c)).heap[w.heap.size]? = some (chgBox c) from by
      rw [((Below.refl w3.heap.size w3).alloc (Nat.le_refl _) (chgBox c)).block _ (heap_lt HX2.out)]
      exact HX2.out)
    unfold chgBox at HB4 HX4 HY4
    generalize w3.alloc _ = w4 at HB4 HX4 HY4 ⊢
    clear q0 q1 q2 q3 q4 q5 q6 q7 HX2 HB2
    refine (few_any [c] (some ⟨w3.heap.size, 0, none⟩) 1 1 w4 (.inr ⟨_, _, rfl, fun k x hk => ?_⟩) (by simp) (fun x hx => ?_)).mono ?_
    · match k, hk with
      | 0, hk =>
        obtain rfl := Option.some.inj hk
        intro j v hj
        rw [cell_of_row _ _ _ _ _ _ HX4.out]
        unfold chgL at hj
        simpa using hj
      | k + 1, hk => simp at hk
    · obtain rfl : x = c := by simpa using hx
      exact HHc.out.1
    rintro e w5 ⟨b2, rfl, hbb, rfl⟩
    clear hbb
    generalize w3.heap.size = B3
    cases b2 with
    | false =>
      go_wp2_with fail
      refine (awake_any _).mono ?_
      rintro e w6 ⟨rfl, hb6⟩
      have HB6 := Lib.hid (below_two HB4.out hb6)
      clear hb6
      go_wp2_with fail
      go_ret
      exact ⟨rfl, HB6.out⟩
    | true =>
      have HM := Lib.hid (HMd.out _ HB4.out (by omega) HFL.out)
      clear HX4
      go_wp2_with fail
      refine HM.out.mono ?_
      rintro e w6 ⟨p, r, L, rfl, T6, l6⟩
      have HT6 := Lib.hid T6
      have HN6 := Lib.hid (rs_one T6.rs)
      have HB6 := Lib.hid (below_two HB4.out T6.fs.below)
      have HY6 := Lib.hid (show w6.heap[w.heap.size]? = some (chgBox c) from (T6.fs.below.block _ (heap_lt HY4.out)).trans HY4.out)
      clear T6
      have HSM := Lib.hid (show Small (runM cs newM) cs.length from by
        have := runM_small cs newM 0 new_small
        rwa [Nat.zero_add] at this)
      have HM0 := Lib.hid (runM_pos cs newM (by decide))
      go_upto_region 4 with (refine wpList_store_row rfl 37 (.tmp 6) (.tmp 33) rfl w6.heap.size #[r.n, r.l, r.c, r.d, r.a, r.f] rfl rfl 37 nilsR (heap_alloc_new _ _) sizeRef rfl HN6.out ?_; rw [World.setRow_alloc_new])
      have HA7 := Lib.hid (show Below w6.heap.size w6 (w6.alloc (.cells #[r.n, r.l, r.c, r.d, r.a, r.f] 37)) from (Below.refl _ _).alloc (Nat.le_refl _) _)
      generalize w6.alloc (.cells #[r.n, r.l, r.c, r.d, r.a, r.f] 37) = w7 at HA7 ⊢
      have HF7 := Lib.hid (HT6.out.fs.keep HA7.out)
      have HB7 := Lib.hid (below_two HB6.out HA7.out)
      have HY7 := Lib.hid (show w7.heap[w.heap.size]? = some (chgBox c) from (HA7.out.block _ (heap_lt HY6.out)).trans HY6.out)
      have HM2 := Lib.hid (HMd.out _ HB7.out (by omega) HFL.out)
      generalize w6.heap.size = B6
      clear HMd HFw HM HT6 HN6 HY6 HA7 hl f2
      go_wp2_with fail
      refine HM2.out.mono ?_
      rintro e w8 ⟨p2, r2, L2, rfl, T8, l8⟩
      have HT8 := Lib.hid T8
      have HN8 := Lib.hid (rs_one T8.rs)
      clear T8
      go_upto_region 5 with (refine wpList_store_row rfl 37 (.tmp 8) (.tmp 38) rfl w8.heap.size #[r2.n, r2.l, r2.c, r2.d, r2.a, r2.f] rfl rfl 37 nilsR (heap_alloc_new _ _) sizeRef rfl HN8.out ?_; rw [World.setRow_alloc_new])
      have HA9 := Lib.hid (show Below w8.heap.size w8 (w8.alloc (.cells #[r2.n, r2.l, r2.c, r2.d, r2.a, r2.f] 37)) from (Below.refl _ _).alloc (Nat.le_refl _) _)
      generalize w8.alloc (.cells #[r2.n, r2.l, r2.c, r2.d, r2.a, r2.f] 37) = w9 at HA9 ⊢
      have HG9 := Lib.hid (HT8.out.fs.keep HA9.out)
      generalize w8.heap.size = B8
      clear HT8 HN8 HA9 HM2
      generalize runM cs newM = M at HF7 HG9 HSM HM0
      have HFE := Lib.hid (small_fewE HSM.out (by omega))
      have hm3 : M.length ≤ 300 := HSM.out.1
      have HFr := Lib.hid (show ∀ W, Below w9.heap.size w9 W → Has w5 p M W from fun W hb => HF7.out.keep ((HG9.out.keep hb).below))
      have HGr := Lib.hid (show ∀ W, Below w9.heap.size w9 W → Has w7 p2 M W from fun W hb => HG9.out.keep hb)
      go_wp2_with fail
      go_loopw [9] (LawSRel M w9) (fun v _ => (M.length + 1 - intOf v).toNat)
      case atStart => exact ⟨0, by omega, rfl, Lib.hid (Below.refl _ _)⟩
      case round =>
        obtain ⟨k, hk, rfl, HBr⟩ := hrel
        by_cases hlt : k < M.length + 2
        · have d1 : decide ((k : Int) - 1 ≤ (M.length : Int)) = true := decide_eq_true (by omega)
          go_upto_region 9 with (first
            | (go_at_call 18; refine (has_count (HFr.out _ HBr.out) HM0.out).mono ?_; rintro e wc ⟨rfl, hw⟩; subst hw)
            | (go_at_call 19; refine (has_nodeI _ (HFr.out _ HBr.out) HM0.out).mono ?_; rintro e wn ⟨rfl, hb⟩; have HBn := Lib.hid (below_two HBr.out hb); clear hb))
          go_upto_region 10 with (go_at_call 20; refine (has_list _ (HFr.out _ HBn.out) HM0.out HFE.out).mono ?_; rintro e wl ⟨x, rfl, ho, hb⟩; have HO := Lib.hid ho; have HBl := Lib.hid hb; have HWn := Lib.hid (below_two HBn.out hb); clear hb ho)
          obtain ⟨xo, xc, hx⟩ := owns_form HO.out
          have hnl := listL_len (i := (k : Int) - 1) HFE.out
          obtain ⟨n, hn⟩ : ∃ n, (listL M ((k : Int) - 1)).length = n := ⟨_, rfl⟩
          subst hx
          rw [hn] at HO hnl
          rw [hn]
          clear hn
          have HS := Lib.hid (show LawSIn wn (.slice xo n xc) n (.int .i64 0) wl from ⟨0, Nat.zero_le _, rfl, HBl, Lib.hid ⟨_, HO.out⟩⟩)
          go_wp2_with fail
          go_loopw [12] (LawSIn wn (.slice xo n xc) n) (fun v _ => n - (intOf v).toNat)
          case atStart => exact HS.out
          case round =>
            obtain ⟨j, hj, rfl, HBi, HOi⟩ := hrel
            obtain ⟨xs, hxs⟩ := HOi.out
            by_cases hlj : j < n
            · have e1 : decide ((j : Int) < (n : Int)) = true := decide_eq_true (by omega)
              obtain ⟨g, cg, e2, hcg, hcm⟩ := owns_some hxs (by omega)
              simp only [Value.slice.injEq] at e2
              obtain ⟨rfl, _, rfl⟩ := e2
              have hxl := hxs.1
              have hge : wn.heap.size ≤ g := (hxs.lt g rfl).1
              have hgl : g < wr.heap.size := (hxs.lt g rfl).2
              have f0 := owns_frozen hxs (j * 2)
              have f1 := owns_frozen hxs (j * 2 + 1)
              obtain ⟨y0, hy0⟩ : ∃ y, xs[j * 2]? = some y := ⟨_, List.getElem?_eq_getElem (by omega)⟩
              obtain ⟨y1, hy1⟩ : ∃ y, xs[j * 2 + 1]? = some y := ⟨_, List.getElem?_eq_getElem (by omega)⟩
              have c0 := owns_cell hxs hy0
              have c1 := owns_cell hxs hy1
              have HXS := Lib.hid hxs
              clear hy0 hy1 hxs
              go_wp2_with fail
              go_roundw
              case rel => exact ⟨j + 1, by omega, by simp, Lib.hid ((HBi.out.setCell (hp := hge) _).setCell (hp := hge) _), Lib.hid ⟨_, owns_setCell (owns_setCell HXS.out (j := j * 2) (by omega) _) (j := j * 2 + 1) (by rw [List.length_set]; omega) _⟩⟩
              case measure => simp [intOf]; omega
            · have e1 : decide ((j : Int) < (n : Int)) = false := decide_eq_false (by omega)
              go_wp2_with (go_at_call 21; refine (has_link _ (HFr.out _ (below_two HBn.out HBi.out)) HM0.out).mono ?_; rintro e wc ⟨rfl, hw⟩; subst hw)
              go_roundw
              case rel => exact ⟨k + 1, by omega, by simp, Lib.hid (below_two HBn.out HBi.out)⟩
              case measure => simp [intOf]; omega
        · have d1 : decide ((k : Int) - 1 ≤ (M.length : Int)) = false := decide_eq_false (by omega)
          go_upto_region 15 with (go_at_call 18; refine (has_count (HFr.out _ HBr.out) HM0.out).mono ?_; rintro e wc ⟨rfl, hw⟩; subst hw)
          go_upto_region 17 with (go_at_call 22; refine (has_same (HFr.out _ HBr.out) (HGr.out _ HBr.out) HM0.out HM0.out (by omega) (by omega) HFE.out HFE.out).mono ?_; rintro e wc ⟨rfl, hb⟩; rw [sameM_self]; have HBs := Lib.hid (below_two HBr.out hb); clear hb)
          have HY9 := Lib.hid (show ∀ W, Below w7.heap.size w7 W → W.heap[w.heap.size]? = some (chgBox c) from fun W hb => (hb.block _ (heap_lt HY7.out)).trans HY7.out)
          have HGc := Lib.hid (HGr.out _ HBs.out)
          have HD := Lib.hid (has_do HGc.out HSM.out (by omega) HM0.out HHc.out.2)
          obtain ⟨q0, q1, q2, q3, q4, q5, q6, q7⟩ := chg_cells (HY9.out _ HGc.out.below)
          have HWB := Lib.hid (show ∀ W, Below w7.heap.size w7 W → Below w.heap.size w W from fun W hb => below_two HB7.out hb)
          by_cases hw : wrongM M c = 0
          · rw [hw] at HD
            have HW := Lib.hid hw
            clear hw
            go_upto_region 18 with (refine HD.out.mono ?_; rintro e wd ⟨rfl, hg⟩; have HGd := Lib.hid hg; clear hg)
            clear q0 q1 q2 q3 q4 q5 q6 q7
            obtain ⟨q0, q1, q2, q3, q4, q5, q6, q7⟩ := chg_cells (HY9.out _ HGd.out.below)
            clear q1 q2 q3 q4 q5 q6 q7
            have HFd := Lib.hid (HF7.out.keep HGd.out.below)
            have hm4 : (doM M c).length ≤ 1000000 := by have := (small_do (c := c) HSM.out).1; omega
            have HM4 := Lib.hid (show 0 < (doM M c).length from len_do HM0.out)
            have HSd := Lib.hid (show FewE (doM M c) from small_fewE (small_do HSM.out) (by omega))
            by_cases h4 : 4 ≤ c.kind
            · have e4 : decide (4 ≤ c.kind) = true := decide_eq_true h4
              by_cases h7 : c.kind = 7
              · have HN := Lib.hid (sameM_do HW.out (by omega))
                rw [h7] at q0
                clear h4 h7 e4
                go_wp2_with (go_at_call 22; refine (has_same HFd.out HGd.out HM0.out HM4.out (by omega) hm4 HFE.out HSd.out).mono ?_; rintro e wc ⟨rfl, hb⟩; rw [HN.out]; have HBe := Lib.hid (below_two HGd.out.below hb); clear hb)
                go_ret
                exact ⟨rfl, HWB.out _ HBe.out⟩
              · have e7 : (c.kind != 7) = true := by simpa using h7
                go_wp2_with fail
                go_ret
                exact ⟨rfl, HWB.out _ HGd.out.below⟩
            · have e4 : decide (4 ≤ c.kind) = false := decide_eq_false h4
              have HN := Lib.hid (sameM_do HW.out (fun q => h4 q.1))
              clear h4
              go_wp2_with (go_at_call 22; refine (has_same HFd.out HGd.out HM0.out HM4.out (by omega) hm4 HFE.out HSd.out).mono ?_; rintro e wc ⟨rfl, hb⟩; rw [HN.out]; have HBe := Lib.hid (below_two HGd.out.below hb); clear hb)
              go_ret
              exact ⟨rfl, HWB.out _ HBe.out⟩
          · have hne : (wrongM M c != 0) = true := by simpa using hw
            have HDM := Lib.hid (show doM M c = M from by unfold doM; rw [if_neg hw])
            rw [HDM.out] at HD
            clear hw
            go_upto_region 18 with (refine HD.out.mono ?_; rintro e wd ⟨rfl, hg⟩; have HGd := Lib.hid hg; clear hg)
            clear q0 q1 q2 q3 q4 q5 q6 q7
            go_wp2_with (go_at_call 22; refine (has_same (HF7.out.keep HGd.out.below) HGd.out HM0.out HM0.out (by omega) (by omega) HFE.out HFE.out).mono ?_; rintro e wc ⟨rfl, hb⟩; rw [sameM_self]; have HBe := Lib.hid (below_two HGd.out.below hb); clear hb)
            go_ret
            exact ⟨rfl, HWB.out _ HBe.out⟩
end Go.Proofs.Ytemjlamgnkjejaa
