/-
  That the law RoamShows returns true. Conditions: the table of classes lies as its text lays it; what came in lies in memory.
-/
import Derived.Test.YtcjbnjoomgagjaaGreatDoorKGArg
import Derived.Test.YtcjbnjoomgagjaaGreatDoorKGRefS
set_option linter.unusedVariables false
set_option linter.unusedSimpArgs false
namespace Go.Proofs.YtcjbnjoomgagjaaGreatDoor.G
open Go.RowKit

/-- What is asked of is the same both ways: the row that either gives. -/
def shownW (M : List V.Nd) (u g i : Int) (all : Bool) : List Ent := if shownE M u g i = 0 then shownL M all i else []
theorem shown_row {M : List V.Nd} {u g i : Int} {all : Bool} {w : World} {b : Nat} {v : Value} (h1 : shownE M u g i = 0 → w.ownsRow b 81 2 v (shownL M all i).length (rowsC enC' (shownL M all i))) (h2 : shownE M u g i ≠ 0 → v = .slice none 0 0) :
    w.ownsRow 0 81 2 v (shownW M u g i all).length (V.entCells (shownW M u g i all)) := by
  unfold shownW
  by_cases h : shownE M u g i = 0
  · rw [if_pos h, ents_rows]
    exact owns_lower (h1 h) (Nat.zero_le _)
  · rw [if_neg h, h2 h]
    exact World.ownsRow_nil _ _ _ _
theorem shownW_len {M : List V.Nd} (hG : Good M) (u g i : Int) (all : Bool) : (shownW M u g i all).length ≤ 1000000 := by
  unfold shownW
  split
  · have h1 : (shownL M all i).length = ((V.listL M i).filter (shownB all)).length := (sortE_perm _).length_eq
    have h2 := List.length_filter_le (shownB all) (V.listL M i)
    have h3 : (V.listL M i).length ≤ 1000 := by
      unfold V.listL
      cases ha : V.atM M i with
      | none => exact Nat.zero_le _
      | some n =>
        obtain ⟨k, _, hk⟩ := V.atM_some ha
        have := hG.ents n (List.mem_of_getElem? hk)
        dsimp only
        repeat' split
        all_goals first | exact Nat.zero_le _ | omega
    omega
  · exact Nat.zero_le _
def ShwRel (n : Nat) (W : World) (v : Value) (wr : World) : Prop := ∃ k : Int, v = .int .i64 k ∧ -1 ≤ k ∧ k ≤ (n : Int) + 1 ∧ Hid (Below W.heap.size W wr)
set_option maxRecDepth 100000 in
set_option maxHeartbeats 16000000 in
theorem shows_any (cs : List V.Chg) (a : Option Addr) (cap : Nat) (u g i : Int) (s : ByteArray) (m : Int) (fo : Bool) (w : World) (H : V.IsChgs w a cs) (ht : P.Tab w) (hl : cs.length ≤ 9223372036854775807) (hz : ∀ c ∈ cs, (c.name.size ≤ 9223372036854775807 ∧ c.text.size ≤ 9223372036854775807) ∧ -9223372036854775808 ≤ c.n ∧ c.n ≤ 9223372036854775807) :
    Calls Tryz.prog 4 #[askedV a cs.length cap u g i s m fo] w fun e w' => e = .returned (.bool true) ∧ Below w.heap.size w w' := by
  have HFw := Lib.hid (fun (W : World) (hb : Below w.heap.size w W) => askedFew_any cs a cap u g i s m fo 50 W (H.keep hb) hl (fun c hc => (hz c hc).1))
  have HMd := Lib.hid (fun (W : World) (hb : Below w.heap.size w W) (h4 : cs.length ≤ 400) (hf : V.FewL cs) => V.made_any cs a cap W (H.keep hb) h4 hf (fun c hc => (hz c hc).2))
  have HT := Lib.hid ht
  clear H hz ht
  unfold askedV at HFw ⊢
  go_enter Tryz.func4, Tryz.ntmps4
  go_upto_region 1 with fail
  have HB0 := Lib.hid (show Below w.heap.size w (w.alloc (.cells #[.slice a cs.length cap, .int .i64 u, .int .i64 g, .int .i64 i, .string s, .int .i64 m, .bool fo] 26)) from (Below.refl _ _).alloc (Nat.le_refl _) _)
  have HX0 := Lib.hid (heap_alloc_new w (.cells #[.slice a cs.length cap, .int .i64 u, .int .i64 g, .int .i64 i, .string s, .int .i64 m, .bool fo] 26))
  generalize w.alloc (.cells #[.slice a cs.length cap, .int .i64 u, .int .i64 g, .int .i64 i, .string s, .int .i64 m, .bool fo] 26) = w0 at HB0 HX0 ⊢
  have HCl := Lib.hid (show ∀ W, Below w0.heap.size w0 W → W.cell? ⟨w.heap.size, 0, none⟩ = some (.slice a cs.length cap) ∧ W.cell? ⟨w.heap.size, 1, none⟩ = some (.int .i64 u) ∧ W.cell? ⟨w.heap.size, 2, none⟩ = some (.int .i64 g) ∧ W.cell? ⟨w.heap.size, 3, none⟩ = some (.int .i64 i) ∧ W.cell? ⟨w.heap.size, 4, none⟩ = some (.string s) ∧ W.cell? ⟨w.heap.size, 5, none⟩ = some (.int .i64 m) ∧ W.cell? ⟨w.heap.size, 6, none⟩ = some (.bool fo) from fun W hW => by
    have q := (hW.block _ (B.heap_lt HX0.out)).trans HX0.out
    refine ⟨?_, ?_, ?_, ?_, ?_, ?_, ?_⟩ <;> (rw [cell_of_row _ _ _ _ _ _ q]; rfl))
  go_wp2_with fail
  refine (awoken_any _ (HT.out.keep HB0.out)).mono ?_
  rintro e w2 ⟨rfl, hb2⟩
  have HB2 := Lib.hid hb2
  clear hb2
  obtain ⟨c0, c1, c2, c3, c4, c5, c6⟩ := HCl.out _ HB2.out
  go_wp2_with fail
  refine (HFw.out _ (V.below_two HB0.out HB2.out)).mono ?_
  rintro e w3 ⟨b, rfl, hb, hb3⟩
  have HBb := Lib.hid hb
  have HB3 := Lib.hid (V.below_two HB2.out hb3)
  clear hb hb3 c0 c1 c2 c3 c4 c5 c6
  obtain ⟨c0, c1, c2, c3, c4, c5, c6⟩ := HCl.out _ HB3.out
  cases b with
  | false =>
    go_wp2_with fail
    refine (awoken_any _ (HT.out.keep (V.below_two HB0.out HB3.out))).mono ?_
    rintro e w4 ⟨rfl, hb4⟩
    have HB4 := Lib.hid (V.below_two (V.below_two HB0.out HB3.out) hb4)
    clear hb4
    go_wp2_with fail
    go_ret
    exact ⟨rfl, HB4.out⟩
  | true =>
    obtain ⟨⟨f1, f2⟩, f3⟩ := HBb.out.1 rfl
    have HFL := Lib.hid f1
    have HS3 := Lib.hid (show s.size ≤ 300 from f3)
    have hcl : cs.length ≤ 400 := by omega
    clear f1 f2 f3 HBb HFw
    have HM := Lib.hid (HMd.out _ (V.below_two HB0.out HB3.out) hcl HFL.out)
    have HG := Lib.hid (good_run cs hcl)
    generalize V.runM cs V.newM = M at HM HG
    go_upto_region 3 with fail
    go_wp2_with fail
    refine HM.out.mono ?_
    rintro e w4 ⟨p, r, L, rfl, T4, l4⟩
    have HR4 := Lib.hid T4.rs
    have HRel := Lib.hid T4.rel
    have HF4 := Lib.hid T4.fs
    have HN4 := Lib.hid (V.rs_one T4.rs)
    have HB4 := Lib.hid (V.below_two HB3.out T4.fs.below)
    have hL4 : L.length ≤ 1000000 := by omega
    clear T4 HM HMd c0 c1 c2 c3 c4 c5 c6 l4 HFL
    go_upto_region 4 with (refine wpList_store_row rfl 35 (.tmp 4) (.tmp 23) rfl w4.heap.size #[r.n, r.l, r.c, r.d, r.a, r.f] rfl rfl 35 V.nilsR (heap_alloc_new _ _) V.sizeRef rfl HN4.out ?_; rw [World.setRow_alloc_new])
    have HA5 := Lib.hid (show Below w4.heap.size w4 (w4.alloc (.cells #[r.n, r.l, r.c, r.d, r.a, r.f] 35)) from (Below.refl _ _).alloc (Nat.le_refl _) _)
    have HX5 := Lib.hid (heap_alloc_new w4 (.cells #[r.n, r.l, r.c, r.d, r.a, r.f] 35))
    generalize w4.alloc (.cells #[r.n, r.l, r.c, r.d, r.a, r.f] 35) = w5 at HA5 HX5 ⊢
    have HF5 := Lib.hid (HF4.out.keep HA5.out)
    have HR5 := Lib.hid (HR4.out.keep HA5.out)
    have HB5 := Lib.hid (V.below_two HB4.out HA5.out)
    have HBw := Lib.hid (V.below_two HB0.out HB5.out)
    have HT5 := Lib.hid (HT.out.keep HBw.out)
    generalize w4.heap.size = B4 at HX5 ⊢
    clear HF4 HR4 HN4 HA5 HB4 HX0
    go_wp2_with fail
    go_loopw [5] (ShwRel M.length w5) (fun v _ => ((M.length : Int) + 1 - intOf v).toNat)
    case atStart => exact ⟨-1, rfl, by omega, by omega, Lib.hid (Below.refl _ _)⟩
    case round =>
      obtain ⟨k, rfl, hk1, hk2, HBr⟩ := hrel
      have HF := Lib.hid (HF5.out.keep HBr.out)
      have HXr := Lib.hid ((HBr.out.block _ (B.heap_lt HX5.out)).trans HX5.out)
      have HBc := Lib.hid (V.below_two HB5.out HBr.out)
      have hM3 : M.length ≤ 300 := HG.out.few
      by_cases hlt : k ≤ (M.length : Int)
      · have dk : decide (k ≤ (M.length : Int)) = true := decide_eq_true hlt
        go_wp2_with fail
        refine (has_count12 HF.out HG.out.pos).mono ?_
        rintro e w6 ⟨rfl, hw⟩
        subst hw
        obtain ⟨c0, c1, c2, c3, c4, c5, c6⟩ := HCl.out _ HBc.out
        go_wp2_with fail
        refine (pshown_any u g k fo _ HF.out (HT5.out.keep HBr.out) HG.out.pos (fun n hn => by have := HG.out.ents n hn; omega) HG.out.ri).mono ?_
        rintro e w7 ⟨v1, rfl, hr1, hn1, hb1⟩
        have HB7 := Lib.hid (V.below_two HBr.out hb1)
        have HO1 := Lib.hid (shown_row hr1 hn1)
        have HX7 := Lib.hid ((HB7.out.block _ (B.heap_lt HX5.out)).trans HX5.out)
        clear hr1 hn1 hb1 c0 c1 c2 c3 c4 c5 c6
        obtain ⟨c0, c1, c2, c3, c4, c5, c6⟩ := HCl.out _ (V.below_two HB5.out HB7.out)
        obtain ⟨a1, l1, h1⟩ := B.owns_form HO1.out
        subst h1
        go_wp2_with (refine wpList_load_row rfl 35 (.tmp 4) rfl B4 rfl 35 #[r.n, r.l, r.c, r.d, r.a, r.f] (0, 0) _ HX7.out Tryz.underlying35 rfl V.sizeRef ?_)
        refine (rshown_any u g k fo _ (HR5.out.keep HB7.out) HRel.out HG.out hL4).mono ?_
        rintro e w8 ⟨v2, rfl, hr2, hn2, hb2⟩
        have HB8 := Lib.hid (V.below_two HB7.out hb2)
        have HO2 := Lib.hid (shown_row hr2 hn2)
        have HO3 := Lib.hid (V.owns_keep HO1.out hb2)
        clear hr2 hn2 hb2 c0 c1 c2 c3 c4 c5 c6
        have dn : (shownE M u g k != shownE M u g k) = false := by simp
        obtain ⟨a2, l2, h2⟩ := B.owns_form HO2.out
        subst h2
        have HSm := Lib.hid (V.rsame_any _ _ _ _ w8 HO3.out HO2.out (shownW_len HG.out u g k fo) (shownW_len HG.out u g k fo))
        go_wp2_with fail
        refine HSm.out.mono ?_
        rintro e w9 ⟨rfl, q, rfl⟩
        rw [V.entsEq_self]
        have HB9 := Lib.hid (drewn_below (n := q) HB8.out)
        go_wp2_with fail
        go_roundw
        case rel => exact ⟨k + 1, rfl, by omega, by omega, HB9⟩
        case measure => simp [intOf]; omega
      · have dk : decide (k ≤ (M.length : Int)) = false := decide_eq_false hlt
        go_wp2_with fail
        refine (has_count12 HF.out HG.out.pos).mono ?_
        rintro e w6 ⟨rfl, hw⟩
        subst hw
        go_wp2_with fail
        go_ret
        exact ⟨rfl, V.below_two HBw.out HBr.out⟩
end Go.Proofs.YtcjbnjoomgagjaaGreatDoor.G
