/-
  What the reference's wrong tells of a change of the kind 2. Conditions: at most 1000000 nodes and entries, texts of at most 1000000 bytes.
-/
import Derived.Test.YtknfhphhcnbndaaGreatDoorGVRefWrP
set_option linter.unusedSimpArgs false
set_option linter.unusedVariables false
namespace Go.Proofs.YtknfhphhcnbndaaGreatDoor.V
open Go.RowKit Go.BigFrame

set_option maxRecDepth 100000 in
set_option maxHeartbeats 40000000 in
theorem wr2_any (M : List Nd) (L : List It) (v : Rv) (c : Chg) (w : World) (H : Rs M L v w) (hM : M.length ≤ 1000000) (hL : L.length ≤ 1000000) (hn : 0 < M.length) (hk : c.kind = 2) (hs : c.name.size ≤ 1000000) (hts : c.text.size ≤ 1000000) (hE : ∀ x, atM M c.at_ = some x → hasEnt c.name x.ents = itHas L c.at_ c.name) :
    Calls Tryz.prog 87 #[rvV v, chgV c] w fun e w' => e = .returned (.int .i64 (wrongM M c)) ∧ Below w.heap.size w w' := by
  have k0 : 0 ≤ c.kind := by omega
  have k3 : c.kind < 4 := by omega
  have HHk := Lib.hid hk
  clear hk
  have HH := Lib.hid H
  obtain ⟨gn, cn, al, cl, gc, cc, ad, cd, aa, ca, af, cf, rfl⟩ := H.at_ hn
  clear H
  have b0 : decide (c.kind < 0) = false := decide_eq_false (by omega)
  have b8 : decide (8 < c.kind) = false := decide_eq_false (by omega)
  have b4 : decide (c.kind < 4) = true := decide_eq_true k3
  have HW := Lib.hid (WIn.begin w ⟨.slice (some ⟨gn, 0, none⟩) M.length cn, .slice al L.length cl, .slice (some ⟨gc, 0, none⟩) M.length cc, .slice ad M.length cd, .slice aa M.length ca, .slice af (devL M 0).length cf⟩ c)
  have HE0 := Lib.hid (wrong_pass (M := M) k0 k3)
  have HE1 := Lib.hid (fun e => wrong_lt (e := e) (M := M) k0 k3)
  unfold rvV chgV
  go_enter Tryz.func87, Tryz.ntmps87
  go_upto_region 1 with fail
  have hw := HW.out
  unfold chgBox at hw
  generalize hw2 : (w.alloc (.cells #[.slice (some ⟨gn, 0, none⟩) M.length cn, .slice al L.length cl, .slice (some ⟨gc, 0, none⟩) M.length cc, .slice ad M.length cd, .slice aa M.length ca, .slice af (devL M 0).length cf] 31)).alloc (.cells #[.int .i64 c.kind, .int .i64 c.at_, .int .i64 c.to, .string c.name, .string c.text, .int .i64 c.a, .int .i64 c.b, .int .i64 c.n] 89) = w2 at hw
  clear hw2
  have HIn := Lib.hid hw
  obtain ⟨q0, q1, q2, q3, q4, q5, q6, q7⟩ := chg_cells hw.chg
  obtain ⟨s0, s1, s2, s3, s4, s5⟩ := hw.cells
  clear hw k0 k3 HW
  cases hto : atM M c.at_ with
  | none =>
    have hno := Lib.hid (atM_none_dec hto)
    have HA := Lib.hid (HE1.out 2 (by unfold entryE; rw [hto]) (by decide))
    clear hto hE
    go_wp2_with fail
    refine (refHas_any M L _ c.at_ _ (HH.out.keep HIn.out.below)).mono ?_
    rintro e w3 ⟨rfl, hb3⟩
    rw [hno.out]
    have HB3 := Lib.hid (below_two HIn.out.below hb3)
    clear hb3
    go_wp2_with fail
    go_ret
    exact ⟨ret_int HA.out.symm, HB3.out⟩
  | some x =>
    have hyes := Lib.hid (atM_some_dec hto)
    obtain ⟨i, hi, hx⟩ := atM_some hto
    have HX := Lib.hid hx
    have HT := Lib.hid hto
    have HEE := Lib.hid (hE x hto)
    have hil : i < M.length := (List.getElem?_eq_some_iff.1 hx).1
    have HI := Lib.hid hi
    rw [hi] at q1
    clear hto hE hx
    go_upto_if 17 with fail
    go_cut [5] from 18 to 63 (fun a5 wx => WIn w ⟨.slice (some ⟨gn, 0, none⟩) M.length cn, .slice al L.length cl, .slice (some ⟨gc, 0, none⟩) M.length cc, .slice ad M.length cd, .slice aa M.length ca, .slice af (devL M 0).length cf⟩ c wx ∧ Hid (x.kind = 2 ∧ goodB c.name = true ∧ itHas L c.at_ c.name = false))
    case first =>
      clear hi
      go_wp2_with fail
      refine (refHas_any M L _ (i : Int) _ (HH.out.keep HIn.out.below)).mono ?_
      rintro e w3 ⟨rfl, hb3⟩
      have hyes2 := hyes.out
      rw [HI.out] at hyes2
      rw [hyes2]
      have hin3 := HIn.out.keep hb3
      clear hb3 HIn q0 q1 q2 q3 q4 q5 q6 q7 s0 s1 s2 s3 s4 s5 hyes2
      obtain ⟨q0, q1, q2, q3, q4, q5, q6, q7⟩ := chg_cells hin3.chg
      obtain ⟨s0, s1, s2, s3, s4, s5⟩ := hin3.cells
      rw [HI.out] at q1
      have n2 : w3.cell? ⟨gn, i * 13 + 2, none⟩ = some (.int .i64 x.kind) := (HH.out.keep hin3.below).node_cell HX.out (by omega) rfl
      have HIn := Lib.hid hin3
      clear hin3
      by_cases hk2 : x.kind = 2
      · have t2 : (x.kind != 2) = false := by simp [hk2]
        have HK2 := Lib.hid hk2
        clear hk2
        cases hg : goodB c.name with
        | false =>
          have HA := Lib.hid (HE1.out 1 (by unfold entryE; rw [HT.out]; show (if x.kind = 2 then _ else _) = _; rw [if_pos HK2.out, if_neg (by rw [hg]; decide)]) (by decide))
          have HG := Lib.hid hg
          clear hg
          go_wp2_with fail
          refine (refGood_any c.name _ hs).mono ?_
          rintro e w' ⟨rfl, rfl⟩
          rw [HG.out]
          go_wp2_with fail
          go_ret
          exact ⟨ret_int HA.out.symm, HIn.out.below⟩
        | true =>
          have HG := Lib.hid hg
          clear hg
          go_wp2_with fail
          refine (refGood_any c.name _ hs).mono ?_
          rintro e w' ⟨rfl, rfl⟩
          rw [HG.out]
          go_wp2_with fail
          go_loopw [5] (WLoop w ⟨.slice (some ⟨gn, 0, none⟩) M.length cn, .slice al L.length cl, .slice (some ⟨gc, 0, none⟩) M.length cc, .slice ad M.length cd, .slice aa M.length ca, .slice af (devL M 0).length cf⟩ c L) (fun v _ => L.length - (intOf v).toNat)
          case atStart => exact ⟨0, Nat.zero_le _, rfl, HIn.out, Lib.hid (fun j y hj => by omega)⟩
          case round =>
            obtain ⟨k, hk, rfl, hin, hno⟩ := hrel
            clear HIn q0 q1 q2 q3 q4 q5 q6 q7 s0 s1 s2 s3 s4 s5 n2
            obtain ⟨q0, q1, q2, q3, q4, q5, q6, q7⟩ := chg_cells hin.chg
            obtain ⟨s0, s1, s2, s3, s4, s5⟩ := hin.cells
            have HIn := Lib.hid hin
            clear hin
            by_cases hlt : k < L.length
            · obtain ⟨y, hy⟩ : ∃ y, L[k]? = some y := ⟨_, List.getElem?_eq_getElem hlt⟩
              obtain ⟨gl, rfl, y0, y1, y2⟩ := (HH.out.keep HIn.out.below).item_cell hy
              have HY := Lib.hid hy
              clear hy
              cases e1 : (y.at_ == c.at_) with
              | false =>
                have hno2 : Hid (∀ (j : Nat) (x : It), j < k + 1 → L[j]? = some x → (x.at_ == c.at_ && sameT x.name c.name) = false) := Lib.hid (fun j z hj hz => by
                  rcases Nat.lt_or_ge j k with q | q
                  · exact hno.out j z q hz
                  · obtain rfl : j = k := by omega
                    rw [HY.out] at hz
                    obtain rfl := Option.some.inj hz
                    rw [e1]; rfl)
                go_wp2_with fail
                go_quiet (fail)
                go_wp2_with fail
                go_roundw
                case rel => exact ⟨k + 1, by omega, by simp, HIn.out.drewN nq, hno2⟩
                case measure => simp [intOf]; omega
              | true =>
                cases e2 : (y.name.toList == c.name.toList) with
                | false =>
                  have hno2 : Hid (∀ (j : Nat) (x : It), j < k + 1 → L[j]? = some x → (x.at_ == c.at_ && sameT x.name c.name) = false) := Lib.hid (fun j z hj hz => by
                    rcases Nat.lt_or_ge j k with q | q
                    · exact hno.out j z q hz
                    · obtain rfl : j = k := by omega
                      rw [HY.out] at hz
                      obtain rfl := Option.some.inj hz
                      rw [e1, show sameT y.name c.name = false from e2]; rfl)
                  go_wp2_with fail
                  go_quiet (fail)
                  go_wp2_with fail
                  go_roundw
                  case rel => exact ⟨k + 1, by omega, by simp, HIn.out.drewN nq, hno2⟩
                  case measure => simp [intOf]; omega
                | true =>
                  have HA := Lib.hid (HE1.out 4 (by unfold entryE; rw [HT.out]; show (if x.kind = 2 then _ else _) = _; rw [if_pos HK2.out, if_pos HG.out, if_pos (by rw [HEE.out]; exact itHas_yes HY.out e1 e2)]) (by decide))
                  go_wp2_with fail
                  go_quiet (fail)
                  go_wp2_with fail
                  go_ret
                  exact ⟨ret_int HA.out.symm, below_drewN' HIn.out.below⟩
            · have hA : itHas L c.at_ c.name = false := itHas_no fun j z hz => hno.out j z (by have := (List.getElem?_eq_some_iff.1 hz).1; omega) hz
              have HA := Lib.hid hA
              clear hA
              go_wp2_with fail
              go_meet
              exact ⟨HIn.out, Lib.hid ⟨HK2.out, HG.out, HA.out⟩⟩
      · have t2 : (x.kind != 2) = true := by simp [hk2]
        have HA := Lib.hid (HE1.out 3 (by unfold entryE; rw [HT.out]; show (if x.kind = 2 then _ else _) = _; rw [if_neg hk2]) (by decide))
        clear hk2
        go_wp2_with fail
        go_ret
        exact ⟨ret_int HA.out.symm, HIn.out.below⟩
    case rest =>
      obtain ⟨hin, HP⟩ := hcut
      clear HIn q0 q1 q2 q3 q4 q5 q6 q7 s0 s1 s2 s3 s4 s5
      obtain ⟨q0, q1, q2, q3, q4, q5, q6, q7⟩ := chg_cells hin.chg
      obtain ⟨s0, s1, s2, s3, s4, s5⟩ := hin.cells
      rw [HI.out] at q1
      have HIn := Lib.hid hin
      clear hin hi
      have HB := Lib.hid (show entryE (atM M) c = if c.kind = 2 then shareE (atM M) c x.dev else if c.kind = 1 ∧ c.n < 0 then 1 else if c.kind = 3 ∧ textB c.text = false then 1 else 0 by
        unfold entryE
        rw [HT.out]
        show (if x.kind = 2 then _ else _) = _
        rw [if_pos HP.out.1, if_pos HP.out.2.1, if_neg (by rw [HEE.out, HP.out.2.2]; decide)])
      have hk := HHk.out
      cases hto2 : atM M c.to with
      | none =>
        have hno := Lib.hid (atM_none_dec hto2)
        have HA := Lib.hid (HE1.out 2 (by rw [HB.out, if_pos hk]; unfold shareE; rw [hto2]) (by decide))
        rw [hk] at q0
        clear hk hto2
        go_wp2_with fail
        refine (refHas_any M L _ c.to _ (HH.out.keep HIn.out.below)).mono ?_
        rintro e w4 ⟨rfl, hb4⟩
        rw [hno.out]
        have HB4 := Lib.hid (below_two HIn.out.below hb4)
        clear hb4
        go_wp2_with fail
        go_ret
        exact ⟨ret_int HA.out.symm, HB4.out⟩
      | some y =>
        have hyes2 := Lib.hid (atM_some_dec hto2)
        obtain ⟨j, hj, hy⟩ := atM_some hto2
        have HJ := Lib.hid hj
        have HY := Lib.hid hy
        have hjl : j < M.length := (List.getElem?_eq_some_iff.1 hy).1
        have HBs := Lib.hid (show entryE (atM M) c = if y.kind = 2 then 1 else if y.dev ≠ x.dev then 1 else 0 by rw [HB.out, if_pos hk]; unfold shareE; rw [hto2])
        have HKd := Lib.hid hk
        rw [hk] at q0
        rw [hj] at q2
        clear hk hto2 hy hj
        go_wp2_with fail
        refine (refHas_any M L _ (j : Int) _ (HH.out.keep HIn.out.below)).mono ?_
        rintro e w4 ⟨rfl, hb4⟩
        have hyes3 := hyes2.out
        rw [HJ.out] at hyes3
        rw [hyes3]
        have hin4 := HIn.out.keep hb4
        clear hb4 HIn q0 q1 q2 q3 q4 q5 q6 q7 s0 s1 s2 s3 s4 s5 hyes3
        obtain ⟨q0, q1, q2, q3, q4, q5, q6, q7⟩ := chg_cells hin4.chg
        obtain ⟨s0, s1, s2, s3, s4, s5⟩ := hin4.cells
        rw [HKd.out] at q0
        rw [HI.out] at q1
        rw [HJ.out] at q2
        have m2 : w4.cell? ⟨gn, j * 13 + 2, none⟩ = some (.int .i64 y.kind) := (HH.out.keep hin4.below).node_cell HY.out (by omega) rfl
        have m0 : w4.cell? ⟨gn, j * 13, none⟩ = some (.int .i64 y.dev) := (HH.out.keep hin4.below).node_cell (k := 0) HY.out (by omega) rfl
        have n0 : w4.cell? ⟨gn, i * 13, none⟩ = some (.int .i64 x.dev) := (HH.out.keep hin4.below).node_cell (k := 0) HX.out (by omega) rfl
        have HIn := Lib.hid hin4
        clear hin4
        by_cases hk2 : y.kind = 2
        · have t2 : (y.kind == 2) = true := by simp [hk2]
          have HA := Lib.hid (HE1.out 1 (by rw [HBs.out, if_pos hk2]) (by decide))
          clear hk2
          go_upto_region 19 with fail
          simp only [List.append]
          go_big_quiet (fail)
          go_wp2_with fail
          go_ret
          exact ⟨ret_int HA.out.symm, below_drewN' HIn.out.below⟩
        · have t2 : (y.kind == 2) = false := by simp [hk2]
          by_cases hd : y.dev = x.dev
          · have t3 : (y.dev != x.dev) = false := by simp [hd]
            have HZ := Lib.hid (show entryE (atM M) c = 0 by rw [HBs.out, if_neg hk2, if_neg (by simp [hd])])
            have HA := Lib.hid (show wrongM M c = 0 by rw [HE0.out HZ.out, if_neg (fun e => by have := e.1; rw [HKd.out] at this; revert this; decide)])
            clear hk2 hd
            go_upto_region 19 with fail
            simp only [List.append]
            go_big_quiet (fail)
            go_wp2_with fail
            go_ret
            exact ⟨ret_int HA.out.symm, below_drewN' HIn.out.below⟩
          · have t3 : (y.dev != x.dev) = true := by simp [hd]
            have HA := Lib.hid (HE1.out 1 (by rw [HBs.out, if_neg hk2, if_pos hd]) (by decide))
            clear hk2 hd
            go_upto_region 19 with fail
            simp only [List.append]
            go_big_quiet (fail)
            go_wp2_with fail
            go_ret
            exact ⟨ret_int HA.out.symm, below_drewN' HIn.out.below⟩
end Go.Proofs.YtknfhphhcnbndaaGreatDoor.V
