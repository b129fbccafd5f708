/-
  That the law RealFixed returns true. Conditions: the table of classes lies as its text lays it; what came in lies in memory.
  The law RealFixed (promise P9.2: a real path is walked to the same node and is its own real path) returns true for every input and leaves its argument alone. Conditions: the card's own, no other.
-/
import Derived.Test.YtjdcoaiklpkedaaDoorHArg
import Derived.Test.YtjdcoaiklpkedaaDoorROf
import Derived.Deep.CutRange
set_option linter.unusedVariables false
namespace Go.Proofs.YtjdcoaiklpkedaaDoor
open Go.RowKit

theorem runM_ri : ∀ (cs : List Chg) (M : List Nd), RI M → DevInv M → RI (runM cs M)
  | [], M, h, _ => h
  | c :: r, M, h, hd => runM_ri r (doM M c) (h.do_ hd) (devInv_do hd)

/-- What the law's loop holds: k names are put together. -/
def BackRel (ns : List ByteArray) (w0 : World) (v9 v10 : Value) (wr : World) : Prop := ∃ k : Nat, k ≤ ns.length ∧ v9 = .string (mkB (flatN (ns.take k))) ∧ v10 = .int .i64 (k : Int) ∧ Hid (w0 = wr)
theorem flat_ge : ∀ ns : List ByteArray, ns.length ≤ (flatN ns).length
  | [] => Nat.le_refl _
  | n :: r => by
    have := flat_ge r
    rw [flatN, List.length_cons, List.length_cons, List.length_append]
    omega
theorem flat_take (ns : List ByteArray) (k : Nat) : (flatN (ns.take k)).length ≤ (flatN ns).length := by
  have e : flatN ns = flatN (ns.take k) ++ flatN (ns.drop k) := by rw [← flatN_app, List.take_append_drop]
  rw [e, List.length_append]
  omega
set_option maxRecDepth 100000 in
set_option maxHeartbeats 8000000 in
theorem fixed_any (cs : List Chg) (a : Option Addr) (cap : Nat) (u g : Int) (s : ByteArray) (fo : Bool) (w : World) (H : IsChgs w a cs) (ht : Tab w) (hl : cs.length ≤ 9223372036854775807) (hz : ∀ c ∈ cs, (c.name.size ≤ 9223372036854775807 ∧ c.text.size ≤ 9223372036854775807) ∧ -9223372036854775808 ≤ c.n ∧ c.n ≤ 9223372036854775807) (hs : s.size ≤ 9223372036854775807) :
    Calls Tryd.prog 3 #[askedV a cs.length cap u g s fo] w fun e w' => e = .returned (.bool true) ∧ Below w.heap.size w w' := by
  have HFw := Lib.hid (fun (W : World) (hb : Below w.heap.size w W) => askedFew_any cs a cap u g s fo 40 W (H.keep hb) hl (fun c hc => (hz c hc).1))
  have HMd := Lib.hid (fun (W : World) (hb : Below w.heap.size w W) (h4 : cs.length ≤ 400) (hf : FewL cs) => made_any cs a cap W (H.keep hb) h4 hf (fun c hc => (hz c hc).2))
  have HT := Lib.hid ht
  clear H hz ht
  unfold askedV at HFw ⊢
  go_enter Tryd.func3, Tryd.ntmps3
  go_upto_region 1 with fail
  have HB0 := Lib.hid (show Below w.heap.size w (w.alloc (.cells #[.slice a cs.length cap, .int .i64 u, .int .i64 g, .string s, .bool fo] 26)) from (Below.refl _ _).alloc (Nat.le_refl _) _)
  have HX0 := Lib.hid (heap_alloc_new w (.cells #[.slice a cs.length cap, .int .i64 u, .int .i64 g, .string s, .bool fo] 26))
  generalize w.alloc (.cells #[.slice a cs.length cap, .int .i64 u, .int .i64 g, .string s, .bool fo] 26) = w0 at HB0 HX0 ⊢
  have HCl := Lib.hid (show ∀ W, Below w0.heap.size w0 W → W.cell? ⟨w.heap.size, 0, none⟩ = some (.slice a cs.length cap) ∧ W.cell? ⟨w.heap.size, 1, none⟩ = some (.int .i64 u) ∧ W.cell? ⟨w.heap.size, 2, none⟩ = some (.int .i64 g) ∧ W.cell? ⟨w.heap.size, 3, none⟩ = some (.string s) ∧ W.cell? ⟨w.heap.size, 4, none⟩ = some (.bool fo) from fun W hW => by
    have q := (hW.block _ (heap_lt HX0.out)).trans HX0.out
    refine ⟨?_, ?_, ?_, ?_, ?_⟩ <;> (rw [cell_of_row _ _ _ _ _ _ q]; rfl))
  go_wp2_with fail
  refine (rawake_any _).mono ?_
  rintro e w2 ⟨rfl, hb2⟩
  have HB2 := Lib.hid hb2
  clear hb2
  obtain ⟨c0, c1, c2, c3, c4⟩ := HCl.out _ HB2.out
  go_wp2_with fail
  refine (HFw.out _ (below_two HB0.out HB2.out)).mono ?_
  rintro e w3 ⟨b, rfl, hb, hb3⟩
  have HBb := Lib.hid hb
  have HB3 := Lib.hid (below_two HB2.out hb3)
  clear hb hb3 c0 c1 c2 c3 c4
  obtain ⟨c0, c1, c2, c3, c4⟩ := HCl.out _ HB3.out
  cases b with
  | false =>
    go_wp2_with fail
    refine (rawake_any _).mono ?_
    rintro e w4 ⟨rfl, hb4⟩
    have HB4 := Lib.hid (below_two (below_two HB0.out HB3.out) hb4)
    clear hb4
    go_wp2_with fail
    go_ret
    exact ⟨rfl, HB4.out⟩
  | true =>
    obtain ⟨⟨f1, f2⟩, f3⟩ := HBb.out.1 rfl
    have HFL := Lib.hid f1
    clear f1
    by_cases h10 : 1000 < s.size
    · have d10 : decide ((1000 : Int) < (s.size : Int)) = true := decide_eq_true (by omega)
      go_wp2_with fail
      refine (rawake_any _).mono ?_
      rintro e w4 ⟨rfl, hb4⟩
      have HB4 := Lib.hid (below_two (below_two HB0.out HB3.out) hb4)
      clear hb4
      go_wp2_with fail
      go_ret
      exact ⟨rfl, HB4.out⟩
    · have d10 : decide ((1000 : Int) < (s.size : Int)) = false := decide_eq_false (by omega)
      have HM := Lib.hid (HMd.out _ (below_two HB0.out HB3.out) (by omega) HFL.out)
      have HSM := Lib.hid (show Small (runM cs newM) cs.length from by
        have := runM_small cs newM 0 new_small
        rwa [Nat.zero_add] at this)
      have HM0 := Lib.hid (runM_pos cs newM (by decide))
      have HTg := Lib.hid (runM_tgt cs newM tgt_new (few_text HFL.out (by omega)))
      have HDu := Lib.hid (runM_du cs newM du_new)
      have HRi := Lib.hid (runM_ri cs newM ri_new devInv_new)
      have hcl : cs.length ≤ 40 := by omega
      generalize runM cs newM = M at HM HSM HM0 HTg HDu HRi
      go_upto_region 3 with fail
      go_wp2_with fail
      refine HM.out.mono ?_
      rintro e w4 ⟨p, r, L, rfl, T4, l4⟩
      have HT4 := Lib.hid T4
      have HN4 := Lib.hid (rs_one T4.rs)
      have HB4 := Lib.hid (below_two HB3.out T4.fs.below)
      clear T4 HM HMd HFw c0 c1 c2 c3 c4
      go_upto_region 4 with (refine wpList_store_row rfl 35 (.tmp 4) (.tmp 35) rfl w4.heap.size #[r.n, r.l, r.c, r.d, r.a, r.f] rfl rfl 35 nilsR (heap_alloc_new _ _) sizeRef rfl HN4.out ?_; rw [World.setRow_alloc_new])
      have HA5 := Lib.hid (show Below w4.heap.size w4 (w4.alloc (.cells #[r.n, r.l, r.c, r.d, r.a, r.f] 35)) from (Below.refl _ _).alloc (Nat.le_refl _) _)
      generalize w4.alloc (.cells #[r.n, r.l, r.c, r.d, r.a, r.f] 35) = w5 at HA5 ⊢
      have HF5 := Lib.hid (HT4.out.fs.keep HA5.out)
      have HB5 := Lib.hid (below_two HB4.out HA5.out)
      generalize w4.heap.size = B4
      clear HT4 HN4 HA5 HB4
      have HML := Lib.hid (show M.length ≤ 1000000 from by have := HSM.out.1; omega)
      have HOf := Lib.hid (fun (path : ByteArray) (hp : path.size ≤ 1000000) (uu gg : Int) W (hb : Below w5.heap.size w5 W) => of_any (u := uu) (g := gg) path w3 W (HF5.out.keep hb) (HT.out.keep (below_two (below_two HB0.out HB5.out) hb)) HM0.out HML.out (small_fewE' HSM.out (by omega)) (tgt_link HTg.out) HRi.out HDu.out hp)
      have HWk := Lib.hid (fun (path : ByteArray) (hp : path.size ≤ 1000000) W (hb : Below w5.heap.size w5 W) => walk_any (u := 0) (g := 0) (follow := true) path w3 W (HF5.out.keep hb) (HT.out.keep (below_two (below_two HB0.out HB5.out) hb)) HM0.out (small_fewE' HSM.out (by omega)) (tgt_link HTg.out) hp)
      unfold credV at HWk
      obtain ⟨c0, c1, c2, c3, c4⟩ := HCl.out _ HB5.out
      have HO1 := Lib.hid (HOf.out s (by omega) u g w5 (Below.refl _ _))
      go_upto_region 5 with (go_at_call 7; refine HO1.out.mono ?_; rintro e w6 ⟨S, N, er, rfl, hr, hb⟩; have HR6 := Lib.hid hr; have HB6 := Lib.hid hb; clear hr hb)
      clear c0 c1 c2 c3 c4 HO1
      have HBw6 := Lib.hid (below_two HB0.out (below_two HB5.out HB6.out))
      rcases HR6.out with ⟨rfl, h0, rfl, ns, hrn, hS, hz⟩ | ⟨h0, rfl, _⟩
      · by_cases hbig : 4096 < S.size
        · have dz : decide ((4096 : Int) < (S.size : Int)) = true := decide_eq_true (by omega)
          clear hrn hS hz h0 hbig
          go_wp2_with fail
          go_ret
          exact ⟨rfl, HBw6.out⟩
        · have dz : decide ((4096 : Int) < (S.size : Int)) = false := decide_eq_false (by omega)
          have HPL := Lib.hid (walkW_place HRi.out HDu.out u g s h0)
          generalize walkW M u g s true = R at hrn HPL ⊢
          obtain ⟨e0, q, hp0⟩ := R
          have hrn : RealN M q ns := hrn
          obtain ⟨hpl, h3⟩ := HPL.out
          have hpl : PlOk M q := hpl
          obtain ⟨hgd, q2, hw2, hq3, hr2⟩ := real_walk HRi.out HDu.out 0 hpl h3 hrn (by rw [← hS]; omega)
          rw [← hS] at hw2
          have hq2 : q2.id = q.id := hq3
          clear hq3
          have HNm := Lib.hid (fun W => refNames_any S W (by omega))
          have hnl : namesL S = ns := by rw [hS]; exact names_path hgd
          simp only [hnl] at HNm
          have HWS := Lib.hid (HWk.out S (by omega))
          rw [hw2] at HWS
          unfold resV plV at HWS
          simp only [hq2] at HWS
          have HO2 := Lib.hid (show ∀ W, Below w5.heap.size w5 W → Calls Tryd.prog 7 #[.pointer (some ⟨p, 0, none⟩), .agg #[.int .i64 0, .int .i64 0], .string S] W fun e w' => e = .returned (.tuple #[.string S, .int .i64 q.id, .int .i64 0]) ∧ Below W.heap.size W w' from fun W hb => (HOf.out S (by omega) 0 0 W hb).mono (by
            rintro e w' ⟨s2, n2, er2, rfl, hr, hb2⟩
            rw [hw2] at hr
            rcases hr with ⟨rfl, _, rfl, ns2, h4, rfl, _⟩ | ⟨_, _, h5 | h5⟩
            · have := realN_det (show RealN M q2 ns2 from h4) hr2
              rw [this, ← hS]
              have e3 : (⟨0, q2, 0⟩ : Res).pl.id = q.id := hq2
              rw [e3]
              exact ⟨rfl, hb2⟩
            · exact absurd (show (0 : Int) = 0 from rfl) h5
            · exact absurd hr2 (h5 ns)))
          have HQ := Lib.hid hq2
          have HS := Lib.hid hS
          have HG := Lib.hid hgd
          have hsz : S.size ≤ 4096 := by omega
          have HFl := Lib.hid (show ns ≠ [] → (flatN ns).length ≤ 4096 from fun h => by
            have e3 := path_flat h
            rw [← hS] at e3
            have := congrArg ByteArray.size e3
            rw [← size_list (mkB _), mkB_list] at this
            omega)
          have hnlen : ns.length ≤ 4096 := by
            by_cases h : ns = []
            · rw [h]; exact Nat.zero_le _
            · exact Nat.le_trans (flat_ge ns) (HFl.out h)
          clear hrn HPL hpl h3 hgd hw2 hq2 hr2 hS hz h0 hnl HOf HWk hbig HR6
          show Code.wp _ _ _ _ _
          go_upto_region 8 with (go_at_call 8; refine (HNm.out _).mono ?_; rintro e w7 ⟨v, rfl, ho, hb⟩; obtain ⟨o7, c7, rfl⟩ := owns_form ho; have HO7 := Lib.hid ho; have HB7 := Lib.hid (below_two HB6.out hb); clear ho hb)
          go_upto_region 9 with fail
          go_wp2_with fail
          go_loopw [9, 10] (BackRel ns w7) (fun _ v _ => ns.length - (intOf v).toNat)
          case atStart => exact ⟨0, Nat.zero_le _, rfl, rfl, Lib.hid rfl⟩
          case round =>
            obtain ⟨k, hk, rfl, rfl, HW⟩ := hrel
            obtain rfl := HW.out
            clear HW
            obtain ⟨Bk, hBk⟩ : ∃ B, mkB (flatN (ns.take k)) = B := ⟨_, rfl⟩
            rw [hBk]
            have HBk := Lib.hid hBk
            by_cases hlt : k < ns.length
            · have e1 : decide ((k : Int) < (ns.length : Int)) = true := decide_eq_true (by omega)
              obtain ⟨nm, hnm⟩ : ∃ x, ns[k]? = some x := ⟨_, List.getElem?_eq_getElem hlt⟩
              obtain ⟨gg, cg, e2, _, _⟩ := owns_some HO7.out (by omega)
              simp only [Value.slice.injEq] at e2
              obtain ⟨rfl, _, rfl⟩ := e2
              have a0 : w7.cell? ⟨gg, k, none⟩ = some (.string nm) := owns_cell HO7.out (by unfold strs; rw [List.getElem?_map, hnm]; rfl)
              obtain ⟨g1, g2, g3, g4, _⟩ := goodB_parts (HG.out nm (List.mem_of_getElem? hnm))
              have n1 : (nm.toList == [46]) = false := by simpa using g3
              have n2 : (nm.toList == [46, 46]) = false := by simpa using g4
              have hbs : Bk.size ≤ 4096 := by
                have h1 := flat_take ns k
                have h2 := HFl.out (by intro z; rw [z] at hlt; simp at hlt)
                rw [← hBk, ← size_list, mkB_list]
                omega
              have hone : (⟨#[47]⟩ : ByteArray).size = 1 := rfl
              have HNx := Lib.hid (show Bk ++ ((⟨#[47]⟩ : ByteArray) ++ nm) = mkB (flatN (ns.take (k + 1))) from by
                rw [flatN_take hnm, ← hBk]
                apply ByteArray.ext
                rw [ByteArray.data_append, ByteArray.data_append]
                unfold mkB
                apply Array.ext'
                simp)
              have HLt := Lib.hid hlt
              clear hBk hnm g3 g4
              go_wp2_with fail
              go_roundw
              case rel => exact ⟨k + 1, HLt.out, by rw [HNx.out], by simp, Lib.hid rfl⟩
              case measure => have := HLt.out; simp [intOf]; omega
            · have e1 : decide ((k : Int) < (ns.length : Int)) = false := decide_eq_false (by omega)
              rw [List.take_of_length_le (by omega)] at hBk
              by_cases hns : ns = []
              · have hB0 : Bk = ⟨#[]⟩ := by rw [← hBk, hns]; rfl
                have hS0 : S = ⟨#[47]⟩ := by rw [HS.out, hns]; rfl
                subst hB0
                rw [hS0] at HWS HO2 ⊢
                clear hBk hns hS0
                go_upto_region 17 with fail
                go_upto_region 18 with (go_at_call 9; refine (HWS.out _ HB7.out).mono ?_; rintro e w8 ⟨rfl, hb⟩; have HB8 := Lib.hid (below_two HB7.out hb); clear hb)
                have HX9 := Lib.hid (heap_alloc_new w8 (.cells #[.int .i64 q.id, .int .i64 q2.dir, .string q2.name, .int .i64 0] 44))
                have HB9 := Lib.hid (show Below w5.heap.size w5 (w8.alloc (.cells #[.int .i64 q.id, .int .i64 q2.dir, .string q2.name, .int .i64 0] 44)) from HB8.out.alloc HB8.out.size _)
                generalize w8.alloc (.cells #[.int .i64 q.id, .int .i64 q2.dir, .string q2.name, .int .i64 0] 44) = w9 at HX9 HB9 ⊢
                generalize w8.heap.size = b9 at HX9 ⊢
                go_upto_region 19 with (go_at_call 7; refine (HO2.out _ HB9.out).mono ?_; rintro e w10 ⟨rfl, hb⟩; have HX10 := Lib.hid ((hb.block _ (heap_lt HX9.out)).trans HX9.out); have HB10 := Lib.hid (below_two HB0.out (below_two HB5.out (below_two HB9.out hb))); clear hb)
                have p0 : w10.cell? ⟨b9, 0, none⟩ = some (.int .i64 q.id) := by rw [cell_of_row _ _ _ _ _ _ HX10.out]; rfl
                have p3 : w10.cell? ⟨b9, 3, none⟩ = some (.int .i64 0) := by rw [cell_of_row _ _ _ _ _ _ HX10.out]; rfl
                go_wp2_with fail
                go_ret
                exact ⟨rfl, HB10.out⟩
              · have hBS : Bk = S := by rw [← hBk, HS.out, path_flat hns]
                subst hBS
                clear hBk hns
                go_upto_region 17 with fail
                go_upto_region 18 with (go_at_call 9; refine (HWS.out _ HB7.out).mono ?_; rintro e w8 ⟨rfl, hb⟩; have HB8 := Lib.hid (below_two HB7.out hb); clear hb)
                have HX9 := Lib.hid (heap_alloc_new w8 (.cells #[.int .i64 q.id, .int .i64 q2.dir, .string q2.name, .int .i64 0] 44))
                have HB9 := Lib.hid (show Below w5.heap.size w5 (w8.alloc (.cells #[.int .i64 q.id, .int .i64 q2.dir, .string q2.name, .int .i64 0] 44)) from HB8.out.alloc HB8.out.size _)
                generalize w8.alloc (.cells #[.int .i64 q.id, .int .i64 q2.dir, .string q2.name, .int .i64 0] 44) = w9 at HX9 HB9 ⊢
                generalize w8.heap.size = b9 at HX9 ⊢
                go_upto_region 19 with (go_at_call 7; refine (HO2.out _ HB9.out).mono ?_; rintro e w10 ⟨rfl, hb⟩; have HX10 := Lib.hid ((hb.block _ (heap_lt HX9.out)).trans HX9.out); have HB10 := Lib.hid (below_two HB0.out (below_two HB5.out (below_two HB9.out hb))); clear hb)
                have p0 : w10.cell? ⟨b9, 0, none⟩ = some (.int .i64 q.id) := by rw [cell_of_row _ _ _ _ _ _ HX10.out]; rfl
                have p3 : w10.cell? ⟨b9, 3, none⟩ = some (.int .i64 0) := by rw [cell_of_row _ _ _ _ _ _ HX10.out]; rfl
                go_wp2_with fail
                go_ret
                exact ⟨rfl, HB10.out⟩
      · have d0 : (er != 0) = true := by simpa using h0
        clear h0
        go_wp2_with fail
        go_ret
        exact ⟨rfl, HBw6.out⟩
end Go.Proofs.YtjdcoaiklpkedaaDoor

namespace Go.Proofs.YtjdcoaiklpkedaaDoor.realFixed
open Go.ChangeShapes Go.WideShapes Go.ChangeAt Go.RowKit
open Go.ChangeMaps (open_string shut_string)

set_option maxRecDepth 100000 in
theorem contract (H : Type) (enc : TypeId × Value → H) (W : World) (base : Nat) (args : Array Value) (ds gs : List (DataW H)) (before : List MemPlace)
    (hval : ∀ (j : Nat) t v, Tryd.f3.params[j]? = some t → args[j]? = some v → Value.okWide Tryd.prog W .any base t v)
    (hW : DataW.Whole enc Tryd.prog Tryd.f3.params.toList Rows.realFixedSpec.vars false W args.toList ds gs before) (hL : laidMetH Tryd.prog Rows.realFixedRow.laid W) :
    Calls Tryd.prog 3 args W fun e W' => ∃ v, e = .returned v ∧ Rows.realFixedSpec.post enc Tryd.prog Tryd.f3 false true false false W args v W' := by
  have hW' := hW
  obtain ⟨p, q, hA0, hV, rfl, hfz, hnd⟩ := hW
  have hA : DataW.TrodAll enc Tryd.prog W 0 (fun _ => true) true Tryd.f3.params.toList args.toList ds p := hA0
  rw [Tryd.params3] at hA hval
  obtain ⟨v0, vs0, d0, ds0, p0, q0, hargs, rfl, rfl, h0, r0⟩ := trodAll_cons hA
  obtain ⟨rfl, rfl, rfl⟩ := trodAll_nil r0
  obtain rfl : args = #[v0] := by cases args; simp_all
  obtain ⟨rfl, rfl⟩ := trodVars_none hV
  have k0 := h0
  have lt0 : ∀ x ∈ p0, x.block < W.heap.size := by obtain ⟨m, hm⟩ := k0; exact DataW.trod_lt m _ _ _ hm
  obtain ⟨ga0, gl0, gc0, gu0, gg0, gs0, gb0, rfl, y0, z0, l0⟩ := asked_of (hval 0 26 v0 rfl rfl) h0
  rw [MakeChecks.laidMetH_plain _ _ _ (by kernel_rfl)] at hL
  have ht : Tab W := tab_of hL
  clear hA0
  refine (fixed_any gl0 ga0 gc0 gu0 gg0 gs0 gb0 W y0 ht l0.1 (fun c hc => ⟨⟨(z0 c hc).name, (z0 c hc).text⟩, (z0 c hc).lo, (z0 c hc).hi⟩) l0.2).mono fun e W' ⟨he, bel⟩ => ?_
  subst he
  exact ⟨_, rfl, _, _, _, [], _, [], hW', trodAll_mk1 (shut_bool Tryd.underlying4 _), (trodAll_cons_mk (Below.trod laidOut (by kernel_rfl) (of_decide_eq_true (by kernel_rfl)) k0 bel lt0) trodAll_mk0), rfl, bel.frame _, fun h => by cases h⟩

theorem laid_met (os : Os) : laidMetH Tryd.prog Rows.realFixedRow.laid ((World.doorLaid Tryd.prog 400 os).forCall (fun _ _ => 0) ⟨#[], #[.agg #[.slice none 0 0, .int .i64 0, .int .i64 0, .string ⟨#[]⟩, .bool false]], []⟩).memory :=
  laidMetH_of_parts3 (fuel := 8) (laidMet_of_run' 8 (by kernel_rfl) (by kernel_rfl)) (by kernel_rfl) (by kernel_rfl)

theorem reads (os : Os) {H : Type} (enc : TypeId × Value → H) : ∃ places, DataW.whole enc Tryd.prog ((World.doorLaid Tryd.prog 400 os).forCall (fun _ _ => 0) ⟨#[], #[.agg #[.slice none 0 0, .int .i64 0, .int .i64 0, .string ⟨#[]⟩, .bool false]], []⟩).memory Tryd.f3.params.toList Rows.realFixedSpec.vars false #[Value.agg #[.slice none 0 0, .int .i64 0, .int .i64 0, .string ⟨#[]⟩, .bool false]].toList 8 = some ([.agg [.nil, .agg [.lit (.int .i64 0), .lit (.int .i64 0)], .lit (.string []), .lit (.bool false)]], [], places) :=
  ⟨[], by kernel_rfl⟩

set_option maxRecDepth 100000 in
theorem lifted (os : Os) (started : os.Started) (H : Type) (enc : TypeId × Value → H) (F : Stop.Interp) :
    ReturnsInHanded {} Tryd.checked os 3 .any ((OpenSpec.ofChange Rows.realFixedSpec).preRow enc Tryd.prog Tryd.f3 Rows.realFixedRow.domain false Rows.realFixedRow.laid) (((OpenSpec.ofChange Rows.realFixedSpec).at F).post enc Tryd.prog Tryd.f3 false true false false) := by
  obtain ⟨places, hx⟩ := reads os enc
  refine returnsInHanded_of_row (C := Tryd.checked) (s := OpenSpec.ofChange Rows.realFixedSpec) own started (by kernel_rfl) Tryd.func3
    (witness_row_atRef (enc := enc) (C := Tryd.checked) false (World.doorLaid Tryd.prog 400 os) #[.agg #[.slice none 0 0, .int .i64 0, .int .i64 0, .string ⟨#[]⟩, .bool false]] rfl (by kernel_rfl) (by kernel_rfl) (by kernel_rfl)
      (OpenSpec.preRow_of_cond 8 hx (by kernel_rfl) (fun k hk => by cases hk) (by kernel_rfl) (laid_met os))) ?_
  intro W base args ds gs before hval hW _ _ _ hL _ _
  exact contract H enc W base args ds gs before hval hW hL

theorem said : Rows.RealFixedSaid :=
  OpenClaim.holds_of_cond 3 Tryd.f3 rfl rfl rfl rfl rfl rfl rfl ⟨rfl, rfl, rfl, rfl, rfl⟩ rfl rfl rfl rfl rfl (by kernel_rfl) Tryd.func3 (by kernel_rfl)
    (of_decide_eq_true (by kernel_rfl)) (by unfold Func.isWrapper; first | (rw [if_pos (by decide +kernel)]; kernel_rfl) | (rw [if_neg (by decide +kernel)]; exact ⟨rfl, rfl⟩))
    (fun os started H enc _ F => by rw [OpenClaim.pre_eq_preRow]; exact lifted os started H enc F)

theorem plain (f : FuncId) (fn : Func) (hf : Tryd.pinned.checked.prog.funcNamed "domesday/domesdaylaw09.RealFixed" = some f) (hfn : Tryd.pinned.checked.prog.funcs[f]? = some fn) :
    false = Tryd.pinned.checked.prog.looks [] ∧ ∀ (j : Nat) t, fn.params[j]? = some t → Tryd.pinned.checked.prog.wantsStandIn t = false := by
  obtain rfl : f = 3 := Option.some.inj ((show Tryd.prog.funcNamed "domesday/domesdaylaw09.RealFixed" = some 3 by kernel_rfl).symm.trans hf) |>.symm
  obtain rfl : fn = Tryd.f3 := (Option.some.inj (Tryd.func3.symm.trans hfn)).symm
  refine ⟨by kernel_rfl, fun j t ht => ?_⟩
  rw [Tryd.params3] at ht
  have : t = 26 := by simpa using Array.mem_of_getElem? ht
  obtain rfl := this
  · exact (show Tryd.prog.wantsStandIn 26 = false by kernel_rfl)

/-- The card. -/
theorem card : Rows.RealFixedCardSaid :=
  Claim7.holds_tied_plain_at .later [] _ _ _ _ said (fun _ h => by cases h) (by kernel_rfl) (fun _ h => by cases h) realFixed_row_tie rfl ⟨rfl, rfl⟩ (by kernel_rfl) rfl plain (by kernel_rfl)
end Go.Proofs.YtjdcoaiklpkedaaDoor.realFixed
