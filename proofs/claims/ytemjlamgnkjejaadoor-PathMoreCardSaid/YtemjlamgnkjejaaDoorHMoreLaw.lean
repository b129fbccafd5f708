/-
  That the law PathMore returns true. Conditions: the table of classes lies as its text lays it; what came in lies in memory.
-/
import Derived.Test.YtemjlamgnkjejaaDoorHUpLaw
set_option linter.unusedVariables false
namespace Go.Proofs.YtemjlamgnkjejaaDoor
open Go.RowKit

set_option maxRecDepth 100000 in
theorem run_neq_place (W : World) (i d h : Int) (n : ByteArray) : (binOp .neq 39 (.agg #[.int .i64 i, .int .i64 d, .string n, .int .i64 h]) (.agg #[.int .i64 i, .int .i64 d, .string n, .int .i64 h])).run Tryd.prog W = .ok (.bool false) W := by
  simp [go_sem]
theorem mkB_app (a b : List UInt8) : mkB a ++ mkB b = mkB (a ++ b) := by
  apply ByteArray.ext
  rw [ByteArray.data_append]
  unfold mkB
  simp
theorem mkB_all (s : ByteArray) : mkB s.data.toList = s := by
  apply ByteArray.ext
  unfold mkB
  simp
theorem ext_one {s : ByteArray} {k : Nat} {b : UInt8} (h : s.data.toList[k]? = some b) : s.extract k (k + 1) = mkB [b] := by
  have hk : k < s.size := by have := (List.getElem?_eq_some_iff.1 h).1; simpa using this
  rw [ext_seg s k (k + 1) (by omega) (by omega)]
  have := seg_snoc (Nat.le_refl k) h
  rw [this]
  unfold seg
  simp
theorem drop_at {l : List UInt8} {k : Nat} {b : UInt8} (h : l[k]? = some b) : l.drop k = b :: l.drop (k + 1) := by
  obtain ⟨hk, rfl⟩ := List.getElem?_eq_some_iff.1 h
  exact (List.drop_eq_getElem_cons hk)

/-- What the loop holds: k bytes are read. -/
def MoreRel (l : List UInt8) (w0 : World) (v5 v6 v7 : Value) (wr : World) : Prop :=
  ∃ (k : Nat) (a b : List UInt8), k ≤ l.length ∧ v7 = .int .i64 (k : Int) ∧ v5 = .string (mkB a) ∧ v6 = .string (mkB b) ∧ Hid (a ++ dblF (l.drop k) = dblF l) ∧ Hid (b ++ dotF (l.drop k) = dotF l) ∧ Hid (w0 = wr)
theorem more_else {l a b : List UInt8} {k : Nat} {c : UInt8} {w0 wr : World} (h : l[k]? = some c) (hc : c ≠ 47) (ha : a ++ dblF (l.drop k) = dblF l) (hb : b ++ dotF (l.drop k) = dotF l) (hw : w0 = wr) {v5 v6 v7 : Value} (h7 : v7 = .int .i64 ((k : Int) + 1)) (h5 : v5 = .string (mkB a ++ mkB [c])) (h6 : v6 = .string (mkB b ++ mkB [c])) : MoreRel l w0 v5 v6 v7 wr := by
  have hk := (List.getElem?_eq_some_iff.1 h).1
  rw [drop_at h, dblF, if_neg hc, ← List.append_assoc] at ha
  rw [drop_at h, dotF, if_neg (fun q => hc q.1), ← List.append_assoc] at hb
  exact ⟨k + 1, _, _, by omega, by rw [h7]; rfl, by rw [h5, mkB_app], by rw [h6, mkB_app], Lib.hid ha, Lib.hid hb, Lib.hid hw⟩
theorem more_mid {l a b : List UInt8} {k : Nat} {w0 wr : World} (h : l[k]? = some 47) (hk : k + 1 < l.length) (ha : a ++ dblF (l.drop k) = dblF l) (hb : b ++ dotF (l.drop k) = dotF l) (hw : w0 = wr) {v5 v6 v7 : Value} (h7 : v7 = .int .i64 ((k : Int) + 1)) (h5 : v5 = .string (mkB a ++ mkB [47] ++ mkB [47])) (h6 : v6 = .string (mkB b ++ mkB [47] ++ mkB [46, 47])) : MoreRel l w0 v5 v6 v7 wr := by
  have hne : l.drop (k + 1) ≠ [] := by
    intro q
    have := congrArg List.length q
    rw [List.length_drop] at this
    simp at this
    omega
  rw [drop_at h, dblF, if_pos rfl, ← List.append_assoc] at ha
  rw [drop_at h, dotF, if_pos ⟨rfl, hne⟩, ← List.append_assoc] at hb
  exact ⟨k + 1, _, _, by omega, by rw [h7]; rfl, by rw [h5, mkB_app, mkB_app, List.append_assoc]; rfl, by rw [h6, mkB_app, mkB_app, List.append_assoc]; rfl, Lib.hid ha, Lib.hid hb, Lib.hid hw⟩
theorem more_end {l a b : List UInt8} {k : Nat} {w0 wr : World} (h : l[k]? = some 47) (hk : k + 1 = l.length) (ha : a ++ dblF (l.drop k) = dblF l) (hb : b ++ dotF (l.drop k) = dotF l) (hw : w0 = wr) {v5 v6 v7 : Value} (h7 : v7 = .int .i64 ((k : Int) + 1)) (h5 : v5 = .string (mkB a ++ mkB [47] ++ mkB [47])) (h6 : v6 = .string (mkB b ++ mkB [47])) : MoreRel l w0 v5 v6 v7 wr := by
  have hne : l.drop (k + 1) = [] := List.drop_eq_nil_of_le (by omega)
  rw [drop_at h, dblF, if_pos rfl, ← List.append_assoc] at ha
  rw [drop_at h, dotF, if_neg (fun q => q.2 hne), ← List.append_assoc] at hb
  exact ⟨k + 1, _, _, by omega, by rw [h7]; rfl, by rw [h5, mkB_app, mkB_app, List.append_assoc]; rfl, by rw [h6, mkB_app], Lib.hid ha, Lib.hid hb, Lib.hid hw⟩

set_option maxRecDepth 100000 in
set_option maxHeartbeats 8000000 in
theorem mores_any (cs : List Chg) (a : Option Addr) (cap : Nat) (u g : Int) (s : ByteArray) (fo : Bool) (w : World) (H : IsChgs w a cs) (ht : Tab w) (hl : cs.length ≤ 9223372036854775807) (hz : ∀ c ∈ cs, (c.name.size ≤ 9223372036854775807 ∧ c.text.size ≤ 9223372036854775807) ∧ -9223372036854775808 ≤ c.n ∧ c.n ≤ 9223372036854775807) (hs : s.size ≤ 9223372036854775807) :
    Calls Tryd.prog 4 #[askedV a cs.length cap u g s fo] w fun e w' => e = .returned (.bool true) ∧ Below w.heap.size w w' := by
  have HFw := Lib.hid (fun (W : World) (hb : Below w.heap.size w W) => askedFew_any cs a cap u g s fo 30 W (H.keep hb) hl (fun c hc => (hz c hc).1))
  have HMd := Lib.hid (fun (W : World) (hb : Below w.heap.size w W) (h4 : cs.length ≤ 400) (hf : FewL cs) => made_any cs a cap W (H.keep hb) h4 hf (fun c hc => (hz c hc).2))
  have HT := Lib.hid ht
  clear H hz ht
  unfold askedV at HFw ⊢
  go_enter Tryd.func4, Tryd.ntmps4
  go_upto_region 1 with fail
  have HB0 := Lib.hid (show Below w.heap.size w (w.alloc (.cells #[.slice a cs.length cap, .int .i64 u, .int .i64 g, .string s, .bool fo] 26)) from (Below.refl _ _).alloc (Nat.le_refl _) _)
  have HX0 := Lib.hid (heap_alloc_new w (.cells #[.slice a cs.length cap, .int .i64 u, .int .i64 g, .string s, .bool fo] 26))
  generalize w.alloc (.cells #[.slice a cs.length cap, .int .i64 u, .int .i64 g, .string s, .bool fo] 26) = w0 at HB0 HX0 ⊢
  have HCl := Lib.hid (show ∀ W, Below w0.heap.size w0 W → W.cell? ⟨w.heap.size, 0, none⟩ = some (.slice a cs.length cap) ∧ W.cell? ⟨w.heap.size, 1, none⟩ = some (.int .i64 u) ∧ W.cell? ⟨w.heap.size, 2, none⟩ = some (.int .i64 g) ∧ W.cell? ⟨w.heap.size, 3, none⟩ = some (.string s) ∧ W.cell? ⟨w.heap.size, 4, none⟩ = some (.bool fo) from fun W hW => by
    have q := (hW.block _ (heap_lt HX0.out)).trans HX0.out
    refine ⟨?_, ?_, ?_, ?_, ?_⟩ <;> (rw [cell_of_row _ _ _ _ _ _ q]; rfl))
  go_wp2_with fail
  refine (awoken_any _).mono ?_
  rintro e w2 ⟨rfl, hb2⟩
  have HB2 := Lib.hid hb2
  clear hb2
  obtain ⟨c0, c1, c2, c3, c4⟩ := HCl.out _ HB2.out
  go_wp2_with fail
  refine (HFw.out _ (below_two HB0.out HB2.out)).mono ?_
  rintro e w3 ⟨b, rfl, hb, hb3⟩
  have HBb := Lib.hid hb
  have HB3 := Lib.hid (below_two HB2.out hb3)
  clear hb hb3 c0 c1 c2 c3 c4
  obtain ⟨c0, c1, c2, c3, c4⟩ := HCl.out _ HB3.out
  cases b with
  | false =>
    go_wp2_with fail
    refine (awoken_any _).mono ?_
    rintro e w4 ⟨rfl, hb4⟩
    have HB4 := Lib.hid (below_two (below_two HB0.out HB3.out) hb4)
    clear hb4
    go_wp2_with fail
    go_ret
    exact ⟨rfl, HB4.out⟩
  | true =>
    obtain ⟨⟨f1, f2⟩, f3⟩ := HBb.out.1 rfl
    have HFL := Lib.hid f1
    clear f1
    by_cases h10 : 500 < s.size
    · have d10 : decide ((500 : Int) < (s.size : Int)) = true := decide_eq_true (by omega)
      clear HFL f2
      go_wp2_with fail
      refine (awoken_any _).mono ?_
      rintro e w4 ⟨rfl, hb4⟩
      have HB4 := Lib.hid (below_two (below_two HB0.out HB3.out) hb4)
      clear hb4
      go_wp2_with fail
      go_ret
      exact ⟨rfl, HB4.out⟩
    · have d10 : decide ((500 : Int) < (s.size : Int)) = false := decide_eq_false (by omega)
      by_cases hz : s.size = 0
      · have d11 : ((s.size : Int) == 0) = true := beq_iff_eq.2 (by omega)
        clear HFL f2 f3 h10 hz
        go_wp2_with fail
        refine (awoken_any _).mono ?_
        rintro e w4 ⟨rfl, hb4⟩
        have HB4 := Lib.hid (below_two (below_two HB0.out HB3.out) hb4)
        clear hb4
        go_wp2_with fail
        go_ret
        exact ⟨rfl, HB4.out⟩
      · have d11 : ((s.size : Int) == 0) = false := beq_eq_false_iff_ne.2 (by omega)
        have HM := Lib.hid (HMd.out _ (below_two HB0.out HB3.out) (by omega) HFL.out)
        have HSM := Lib.hid (show Small (runM cs newM) cs.length from by
          have := runM_small cs newM 0 new_small
          rwa [Nat.zero_add] at this)
        have HM0 := Lib.hid (runM_pos cs newM (by decide))
        have HTg := Lib.hid (runM_tgt cs newM tgt_new (few_text HFL.out (by omega)))
        have hcl : cs.length ≤ 30 := by omega
        generalize runM cs newM = M at HM HSM HM0 HTg
        go_upto_region 3 with fail
        go_wp2_with fail
        refine HM.out.mono ?_
        rintro e w4 ⟨p, r, L, rfl, T4, l4⟩
        have HT4 := Lib.hid T4
        have HN4 := Lib.hid (rs_one T4.rs)
        have HB4 := Lib.hid (below_two HB3.out T4.fs.below)
        clear T4 HM HMd HFw c0 c1 c2 c3 c4
        go_upto_region 4 with (refine wpList_store_row rfl 35 (.tmp 4) (.tmp 39) rfl w4.heap.size #[r.n, r.l, r.c, r.d, r.a, r.f] rfl rfl 35 nilsR (heap_alloc_new _ _) sizeRef rfl HN4.out ?_; rw [World.setRow_alloc_new])
        have HA5 := Lib.hid (show Below w4.heap.size w4 (w4.alloc (.cells #[r.n, r.l, r.c, r.d, r.a, r.f] 35)) from (Below.refl _ _).alloc (Nat.le_refl _) _)
        generalize w4.alloc (.cells #[r.n, r.l, r.c, r.d, r.a, r.f] 35) = w5 at HA5 ⊢
        have HF5 := Lib.hid (HT4.out.fs.keep HA5.out)
        have HB5 := Lib.hid (below_two HB4.out HA5.out)
        generalize w4.heap.size = B4
        clear HT4 HN4 HA5 HB4
        have hlen : s.data.toList.length = s.size := size_list s
        have hldb := dbl_len s.data.toList
        have hldt := dot_len s.data.toList
        have HWk := Lib.hid (fun (path : ByteArray) (hp : path.size ≤ 1000000) W (hb : Below w5.heap.size w5 W) => walk_any (u := u) (g := g) (follow := fo) path w3 W (HF5.out.keep hb) (HT.out.keep (below_two (below_two HB0.out HB5.out) hb)) HM0.out (small_fewE' HSM.out (by omega)) (tgt_link HTg.out) hp)
        unfold credV at HWk
        have hs2 : (mkB (dblF s.data.toList)).size = (dblF s.data.toList).length := by unfold mkB; simp [ByteArray.size]
        have hs3 : (mkB (dotF s.data.toList)).size = (dotF s.data.toList).length := by unfold mkB; simp [ByteArray.size]
        have HS1 := Lib.hid (HWk.out s (by omega))
        have HS2 := Lib.hid (HWk.out (mkB (dblF s.data.toList)) (by omega))
        have HS3 := Lib.hid (HWk.out (mkB (dotF s.data.toList)) (by omega))
        rw [dbl_walk M u g fo s hz (by omega)] at HS2
        have hU : u = 0 → SameR (walkW M u g s fo) (walkW M u g (mkB (dotF s.data.toList)) fo) := fun e => by subst e; exact dot_walk M g fo s hz (by omega)
        generalize walkW M u g s fo = r1 at HS1 HS2 hU
        generalize walkW M u g (mkB (dotF s.data.toList)) fo = r3 at HS3 hU
        have HU := Lib.hid hU
        clear hU HWk hs2 hs3 hldb hldt
        obtain ⟨e1, ⟨i1, dir1, n1⟩, hp1⟩ := r1
        obtain ⟨e3, ⟨i3, dir3, n3⟩, hp3⟩ := r3
        unfold resV plV at HS1 HS2 HS3
        obtain ⟨c0, c1, c2, c3, c4⟩ := HCl.out _ HB5.out
        have HNE := Lib.hid (fun W => run_neq_place W i1 dir1 hp1 n1)
        have HLen := Lib.hid hlen
        have hs5 : s.size ≤ 500 := by omega
        have HDB := Lib.hid (show (dblF s.data.toList).length ≤ 1000 from by have := dbl_len s.data.toList; omega)
        have HDT := Lib.hid (show (dotF s.data.toList).length ≤ 1500 from by have := dot_len s.data.toList; omega)
        clear hlen f3 h10 hz HFL f2
        go_upto_region 6 with fail
        go_loopw [5, 6, 7] (MoreRel s.data.toList w5) (fun _ _ v _ => s.size - (intOf v).toNat)
        case atStart => exact ⟨0, [], [], Nat.zero_le _, rfl, rfl, rfl, Lib.hid rfl, Lib.hid rfl, Lib.hid rfl⟩
        case round =>
          obtain ⟨k, la, lb, hk, rfl, rfl, rfl, ha, hb, hw⟩ := hrel
          have HA := Lib.hid ha.out
          have HBd := Lib.hid hb.out
          have hw' := hw.out
          subst hw'
          clear ha hb hw
          rw [HLen.out] at hk
          have z5 : (mkB la).size ≤ 1000 := by
            have e := congrArg List.length HA.out
            rw [List.length_append] at e
            have := HDB.out
            show la.toArray.size ≤ 1000
            rw [List.size_toArray]
            omega
          have z6 : (mkB lb).size ≤ 1500 := by
            have e := congrArg List.length HBd.out
            rw [List.length_append] at e
            have := HDT.out
            show lb.toArray.size ≤ 1500
            rw [List.size_toArray]
            omega
          by_cases hlt : k < s.size
          · have d0 : decide ((k : Int) < (s.size : Int)) = true := decide_eq_true (by omega)
            obtain ⟨c, hc⟩ : ∃ c, s.data.toList[k]? = some c := ⟨_, List.getElem?_eq_getElem (by rw [HLen.out]; exact hlt)⟩
            have hcs : s[k]'hlt = c := by
              have := Lib.data_getElem? s k hlt
              rw [hc] at this
              exact (Option.some.inj this).symm
            have HC := Lib.hid hc
            clear hc
            by_cases h47 : c = 47
            · subst h47
              by_cases hend : k + 1 < s.size
              · have d1 : decide ((k : Int) < (s.size : Int) - 1) = true := decide_eq_true (by omega)
                have HRR := Lib.hid (fun (v5 v6 v7 : Value) => more_mid (v5 := v5) (v6 := v6) (v7 := v7) HC.out (by rw [HLen.out]; exact hend) HA.out HBd.out (rfl : w5 = w5))
                go_wp2_with fail
                go_roundw
                case rel => exact HRR.out _ _ _ rfl (by rw [ext_one HC.out]; rfl) (by rw [ext_one HC.out]; rfl)
                case measure => simp [intOf]; omega
              · have d1 : decide ((k : Int) < (s.size : Int) - 1) = false := decide_eq_false (by omega)
                have HRR := Lib.hid (fun (v5 v6 v7 : Value) => more_end (v5 := v5) (v6 := v6) (v7 := v7) HC.out (by rw [HLen.out]; omega) HA.out HBd.out (rfl : w5 = w5))
                go_wp2_with fail
                go_roundw
                case rel => exact HRR.out _ _ _ rfl (by rw [ext_one HC.out]; rfl) (by rw [ext_one HC.out])
                case measure => simp [intOf]; omega
            · have d1 : ((c.toNat : Int) == 47) = false := beq_eq_false_iff_ne.2 (fun q => h47 (UInt8.toNat_inj.1 (by show c.toNat = 47; omega)))
              have HRR := Lib.hid (fun (v5 v6 v7 : Value) => more_else (v5 := v5) (v6 := v6) (v7 := v7) HC.out h47 HA.out HBd.out (rfl : w5 = w5))
              go_wp2_with fail
              go_roundw
              case rel => exact HRR.out _ _ _ rfl (by rw [ext_one HC.out]) (by rw [ext_one HC.out])
              case measure => simp [intOf]; omega
          · have d0 : decide ((k : Int) < (s.size : Int)) = false := decide_eq_false (by omega)
            have e0 : s.data.toList.drop k = [] := List.drop_eq_nil_of_le (by rw [HLen.out]; omega)
            have ea := HA.out
            have eb := HBd.out
            rw [e0] at ea eb
            have ea : la = dblF s.data.toList := by rw [← ea]; exact (List.append_nil la).symm
            have eb : lb = dotF s.data.toList := by rw [← eb]; exact (List.append_nil lb).symm
            subst ea eb
            clear e0 HA HBd hk
            go_wp2_with fail
            refine (HS1.out _ (Below.refl _ _)).mono ?_
            rintro e w6 ⟨rfl, hb6⟩
            have HB6 := Lib.hid hb6
            clear hb6 c0 c1 c2 c3 c4
            go_upto_region 15 with fail
            have HB7 := Lib.hid (below_two HB6.out ((Below.refl w6.heap.size w6).alloc (Nat.le_refl _) (.cells #[.int .i64 i1, .int .i64 dir1, .string n1, .int .i64 hp1] 39)))
            have HX7 := Lib.hid (heap_alloc_new w6 (.cells #[.int .i64 i1, .int .i64 dir1, .string n1, .int .i64 hp1] 39))
            generalize w6.alloc (.cells #[.int .i64 i1, .int .i64 dir1, .string n1, .int .i64 hp1] 39) = w7 at HB7 HX7 ⊢
            obtain ⟨c0, c1, c2, c3, c4⟩ := HCl.out _ (below_two HB5.out HB7.out)
            generalize w6.heap.size = b6 at HX7 ⊢
            go_wp2_with fail
            refine (HS2.out _ HB7.out).mono ?_
            rintro e w8 ⟨rfl, hb8⟩
            have HB8 := Lib.hid hb8
            clear hb8 c0 c1 c2 c3 c4
            go_upto_region 16 with fail
            have HB89 := Lib.hid (below_two HB8.out ((Below.refl w8.heap.size w8).alloc (Nat.le_refl _) (.cells #[.int .i64 i1, .int .i64 dir1, .string n1, .int .i64 hp1] 39)))
            have HX9 := Lib.hid (heap_alloc_new w8 (.cells #[.int .i64 i1, .int .i64 dir1, .string n1, .int .i64 hp1] 39))
            generalize w8.alloc (.cells #[.int .i64 i1, .int .i64 dir1, .string n1, .int .i64 hp1] 39) = w9 at HB89 HX9 ⊢
            have HX79 := Lib.hid ((HB89.out.block _ (heap_lt HX7.out)).trans HX7.out)
            have HB9 := Lib.hid (below_two HB7.out HB89.out)
            generalize w8.heap.size = b8 at HX9 ⊢
            clear HX7 HB89 HB8 HB7 HB6
            obtain ⟨c0, c1, c2, c3, c4⟩ := HCl.out _ (below_two HB5.out HB9.out)
            go_wp2_with fail
            refine (HS3.out _ HB9.out).mono ?_
            rintro e wA ⟨rfl, hbA⟩
            have HBA := Lib.hid hbA
            clear hbA c0 c1 c2 c3 c4
            go_upto_region 17 with fail
            have HB9B := Lib.hid (below_two HBA.out ((Below.refl wA.heap.size wA).alloc (Nat.le_refl _) (.cells #[.int .i64 i3, .int .i64 dir3, .string n3, .int .i64 hp3] 39)))
            have HXB := Lib.hid (heap_alloc_new wA (.cells #[.int .i64 i3, .int .i64 dir3, .string n3, .int .i64 hp3] 39))
            generalize wA.alloc (.cells #[.int .i64 i3, .int .i64 dir3, .string n3, .int .i64 hp3] 39) = wB at HB9B HXB ⊢
            generalize wA.heap.size = bA at HXB ⊢
            have HB := Lib.hid (below_two HB9.out HB9B.out)
            have HBt := Lib.hid (below_two HB0.out (below_two HB5.out HB.out))
            obtain ⟨c0, c1, c2, c3, c4⟩ := HCl.out _ (below_two HB5.out HB.out)
            have HR1 := Lib.hid ((HB9B.out.block _ (heap_lt HX79.out)).trans HX79.out)
            have HR2 := Lib.hid ((HB9B.out.block _ (heap_lt HX9.out)).trans HX9.out)
            have p0 : wB.cell? ⟨b6, 0, none⟩ = some (.int .i64 i1) := by rw [cell_of_row _ _ _ _ _ _ HR1.out]; rfl
            have p1 : wB.cell? ⟨b6, 1, none⟩ = some (.int .i64 dir1) := by rw [cell_of_row _ _ _ _ _ _ HR1.out]; rfl
            have p2 : wB.cell? ⟨b6, 2, none⟩ = some (.string n1) := by rw [cell_of_row _ _ _ _ _ _ HR1.out]; rfl
            have p3 : wB.cell? ⟨b6, 3, none⟩ = some (.int .i64 hp1) := by rw [cell_of_row _ _ _ _ _ _ HR1.out]; rfl
            have q0 : wB.cell? ⟨b8, 0, none⟩ = some (.int .i64 i1) := by rw [cell_of_row _ _ _ _ _ _ HR2.out]; rfl
            have q1 : wB.cell? ⟨b8, 1, none⟩ = some (.int .i64 dir1) := by rw [cell_of_row _ _ _ _ _ _ HR2.out]; rfl
            have q2 : wB.cell? ⟨b8, 2, none⟩ = some (.string n1) := by rw [cell_of_row _ _ _ _ _ _ HR2.out]; rfl
            have q3 : wB.cell? ⟨b8, 3, none⟩ = some (.int .i64 hp1) := by rw [cell_of_row _ _ _ _ _ _ HR2.out]; rfl
            have r0 : wB.cell? ⟨bA, 0, none⟩ = some (.int .i64 i3) := by rw [cell_of_row _ _ _ _ _ _ HXB.out]; rfl
            have hne := HNE.out
            by_cases hu0 : u = 0
            · obtain ⟨s1, s2⟩ := HU.out hu0
              have s1 : e1 = e3 := s1
              have s2 : i1 = i3 := s2
              subst s1 s2 hu0
              go_wp2_with fail
              go_ret
              exact ⟨rfl, HBt.out⟩
            · have ku : (u != 0) = true := by simpa using hu0
              clear hu0
              go_wp2_with fail
              go_ret
              exact ⟨rfl, HBt.out⟩
end Go.Proofs.YtemjlamgnkjejaaDoor
