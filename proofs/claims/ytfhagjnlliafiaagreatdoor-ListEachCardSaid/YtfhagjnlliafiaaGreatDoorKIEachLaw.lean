/-
 That the law ListEach returns true.
 Conditions: each fact's own.
-/
import Derived.Test.YtfhagjnlliafiaaGreatDoorKIAwake
set_option linter.unusedSimpArgs false
set_option linter.unusedVariables false
set_option maxHeartbeats 16000000
set_option maxRecDepth 100000
open List renaming setIfInBounds_toArray → lt, set_cons_zero → l0, set_cons_succ → ls
open Go.Act renaming put → u
namespace Go.Proofs.YtfhagjnlliafiaaGreatDoor.I
open Go.Proofs.YtfhagjnlliafiaaGreatDoor.B
open Go.RowKit
def plainH (h : Hw) : Hw := ⟨0, 0, h.order, h.rev, h.dirs, h.clock, 0, false, false, false, 0, ⟨#[]⟩, 0, 0⟩
def longH (h : Hw) : Hw := ⟨4, 0, h.order, false, false, 0, 0, false, false, false, 0, ⟨#[]⟩, 0, 0⟩
theorem plain_ok (h : Hw) : OkH (plainH h) := ⟨Nat.zero_le _, ⟨(by decide : (-9223372036854775808 : Int) ≤ 0), (by decide : (0 : Int) ≤ 9223372036854775807)⟩, ⟨(by decide : (-9223372036854775808 : Int) ≤ 0), (by decide : (0 : Int) ≤ 9223372036854775807)⟩⟩
theorem long_ok (h : Hw) : OkH (longH h) := ⟨Nat.zero_le _, ⟨(by decide : (-9223372036854775808 : Int) ≤ 0), (by decide : (0 : Int) ≤ 9223372036854775807)⟩, ⟨(by decide : (-9223372036854775808 : Int) ≤ 0), (by decide : (0 : Int) ≤ 9223372036854775807)⟩⟩
theorem plain_all (M : List V.Nd) (h : Hw) (T : List En) : allI M (plainH h) id T = T.map (·.1) := by
 rw [bare_all M (h := plainH h) id ⟨(by decide : (0 : Int) ≠ 4), rfl, rfl⟩]
 congr 1
def CntRel (M : List V.Nd) (es : List En) (w5 : World) (v5 v6 : Value) (wr : World) : Prop :=
 ∃ k : Nat, k ≤ es.length ∧ v6 = .int .i64 (k : Int) ∧ v5 = .int .i64 ((thereL M (es.take k)).length : Int) ∧ Hid (Below w5.heap.size w5 wr)
def CmpRel (T : List En) (w9 : World) (v10 : Value) (wr : World) : Prop :=
 ∃ k : Nat, k ≤ T.length ∧ v10 = .int .i64 (k : Int) ∧ Hid (Below w9.heap.size w9 wr)
theorem each_any (cs : List V.Chg) (a : Option Addr) (cap : Nat) (es : List En) (ea : Option Addr) (ec : Nat) (h : Hw) (w : World) (H : V.IsChgs w a cs) (E : EntL w ea es) (ht : ATab w) (hl : cs.length ≤ 9223372036854775807) (hw : ∀ c ∈ cs, V.WideC c) (hel : es.length ≤ 9223372036854775807) (hez : ∀ e ∈ es, e.1.size ≤ 9223372036854775807) (ho : h.own.size ≤ 9223372036854775807) :
  Calls Tryz.prog 4 #[askedV a cs.length cap ea es.length ec h] w fun e w' => e = .returned (.bool true) ∧ Below w.heap.size w w' := by
 have HFw := Lib.hid (fun X (hb : Below w.heap.size w X) => askedFew_any cs a cap es ea ec h 30 X (H.keep hb) (E.keep hb) hl (fun c hc => ⟨(hw c hc).name, (hw c hc).text⟩) hel hez ho)
 have HMd := Lib.hid (fun (X : World) (hb : Below w.heap.size w X) (h4 : cs.length ≤ 400) (hf : V.FewL cs) => V.made_any cs a cap X (H.keep hb) h4 hf (fun c hc => ⟨(hw c hc).lo, (hw c hc).hi⟩))
 have HAw := Lib.hid (fun (X : World) (hb : Below w.heap.size w X) => awoken_any X (ht.keep hb))
 have HGd := Lib.hid (fun (h4 : cs.length ≤ 400) (hf : V.FewL cs) => goodI_run cs h4 hf (fun c hc => ⟨(hw c hc).lo, (hw c hc).hi⟩))
 have HNm := Lib.hid (fun (h4 : cs.length ≤ 400) (hG : GoodI (V.runM cs V.newM)) => nums_run cs h4 hG (fun c hc => ⟨(hw c hc).a, (hw c hc).b⟩))
 have HAt := Lib.hid (fun (X : World) (hb : Below w.heap.size w X) => ht.keep hb)
 have HE := Lib.hid (fun (X : World) (hb : Below w.heap.size w X) => E.keep hb)
 clear H E ht hw hez ho
 unfold askedV at HFw ⊢
 go_enter Tryz.func4, Tryz.ntmps4
 go_upto_region 1 with fail
 obtain ⟨B0, hB0⟩ : ∃ B0, w.heap.size = B0 := ⟨_, rfl⟩
 obtain ⟨w1, hw1⟩ : ∃ w1, w.alloc (.cells #[.slice a cs.length cap, .slice ea es.length ec, .int .i64 h.form, .int .i64 h.most, .int .i64 h.order, .bool h.rev, .bool h.dirs, .int .i64 h.clock, .int .i64 h.quote, .bool h.mark, .bool h.inode, .bool h.blocks, .int .i64 h.style, .string h.own, .int .i64 h.now, .int .i64 h.offset] 27) = w1 := ⟨_, rfl⟩
 have HB1 := Lib.hid (show Below w.heap.size w w1 from by rw [← hw1]; exact (Below.refl _ _).alloc (Nat.le_refl _) _)
 have HX1 := Lib.hid (show w1.heap[B0]? = some (.cells #[.slice a cs.length cap, .slice ea es.length ec, .int .i64 h.form, .int .i64 h.most, .int .i64 h.order, .bool h.rev, .bool h.dirs, .int .i64 h.clock, .int .i64 h.quote, .bool h.mark, .bool h.inode, .bool h.blocks, .int .i64 h.style, .string h.own, .int .i64 h.now, .int .i64 h.offset] 27) from by rw [← hw1, ← hB0]; exact heap_alloc_new _ _)
 rw [hw1, hB0]
 clear hw1 hB0
 go_wp2_with fail
 refine (HAw.out _ HB1.out).mono ?_
 rintro e w2 ⟨rfl, hb2⟩
 have HB2 := Lib.hid (below_two HB1.out hb2)
 have HX2 := Lib.hid ((hb2.block _ (heap_lt HX1.out)).trans HX1.out)
 clear hb2 HX1 HB1
 have k0 : w2.cell? ⟨B0, 0, none⟩ = some (.slice a cs.length cap) := by rw [cell_of_row _ _ _ _ _ _ HX2.out]; rfl
 have k1 : w2.cell? ⟨B0, 1, none⟩ = some (.slice ea es.length ec) := by rw [cell_of_row _ _ _ _ _ _ HX2.out]; rfl
 have k2 : w2.cell? ⟨B0, 2, none⟩ = some (.int .i64 h.form) := by rw [cell_of_row _ _ _ _ _ _ HX2.out]; rfl
 have k3 : w2.cell? ⟨B0, 3, none⟩ = some (.int .i64 h.most) := by rw [cell_of_row _ _ _ _ _ _ HX2.out]; rfl
 have k4 : w2.cell? ⟨B0, 4, none⟩ = some (.int .i64 h.order) := by rw [cell_of_row _ _ _ _ _ _ HX2.out]; rfl
 have k5 : w2.cell? ⟨B0, 5, none⟩ = some (.bool h.rev) := by rw [cell_of_row _ _ _ _ _ _ HX2.out]; rfl
 have k6 : w2.cell? ⟨B0, 6, none⟩ = some (.bool h.dirs) := by rw [cell_of_row _ _ _ _ _ _ HX2.out]; rfl
 have k7 : w2.cell? ⟨B0, 7, none⟩ = some (.int .i64 h.clock) := by rw [cell_of_row _ _ _ _ _ _ HX2.out]; rfl
 have k8 : w2.cell? ⟨B0, 8, none⟩ = some (.int .i64 h.quote) := by rw [cell_of_row _ _ _ _ _ _ HX2.out]; rfl
 have k9 : w2.cell? ⟨B0, 9, none⟩ = some (.bool h.mark) := by rw [cell_of_row _ _ _ _ _ _ HX2.out]; rfl
 have k10 : w2.cell? ⟨B0, 10, none⟩ = some (.bool h.inode) := by rw [cell_of_row _ _ _ _ _ _ HX2.out]; rfl
 have k11 : w2.cell? ⟨B0, 11, none⟩ = some (.bool h.blocks) := by rw [cell_of_row _ _ _ _ _ _ HX2.out]; rfl
 have k12 : w2.cell? ⟨B0, 12, none⟩ = some (.int .i64 h.style) := by rw [cell_of_row _ _ _ _ _ _ HX2.out]; rfl
 have k13 : w2.cell? ⟨B0, 13, none⟩ = some (.string h.own) := by rw [cell_of_row _ _ _ _ _ _ HX2.out]; rfl
 have k14 : w2.cell? ⟨B0, 14, none⟩ = some (.int .i64 h.now) := by rw [cell_of_row _ _ _ _ _ _ HX2.out]; rfl
 have k15 : w2.cell? ⟨B0, 15, none⟩ = some (.int .i64 h.offset) := by rw [cell_of_row _ _ _ _ _ _ HX2.out]; rfl
 go_wp2_with fail
 refine (HFw.out _ HB2.out).mono ?_
 rintro e w3 ⟨b, rfl, hb, hb3⟩
 have HBb := Lib.hid hb
 have HB3 := Lib.hid (below_two HB2.out hb3)
 have HX3 := Lib.hid ((hb3.block _ (heap_lt HX2.out)).trans HX2.out)
 clear hb hb3 HX2 HB2 HFw k0 k1 k2 k3 k4 k5 k6 k7 k8 k9 k10 k11 k12 k13 k14 k15
 cases b with
 | false =>
  go_wp2_with fail
  refine (HAw.out _ HB3.out).mono ?_
  rintro e w4 ⟨rfl, hb4⟩
  have HB4 := Lib.hid (below_two HB3.out hb4)
  clear hb4
  go_wp2_with fail
  go_ret
  exact ⟨rfl, HB4.out⟩
 | true =>
  have hF := (show (V.FewL cs ∧ (cs.length : Int) ≤ 30) ∧ es.length ≤ 12 ∧ (∀ e ∈ es, e.1.size ≤ 60) ∧ h.own.size ≤ 30 from by first | exact HBb.out rfl | exact HBb.out trivial)
  have hl6 : cs.length ≤ 30 := by omega
  have he12 := hF.2.1
  have HM := Lib.hid (HMd.out _ HB3.out (by omega) hF.1.1)
  have HG := Lib.hid (HGd.out (by omega) hF.1.1)
  have HZ := Lib.hid (show ∀ e ∈ es, e.1.size ≤ 60000 from fun e he => by have := hF.2.2.1 e he; omega)
  have HN := Lib.hid (HNm.out (by omega) HG.out)
  clear HMd HGd HBb hF HAw HNm
  generalize V.runM cs V.newM = M at HM HG HN
  have c0 : w3.cell? ⟨B0, 0, none⟩ = some (.slice a cs.length cap) := by rw [cell_of_row _ _ _ _ _ _ HX3.out]; rfl
  go_upto_region 3 with fail
  go_wp2_with fail
  refine HM.out.mono ?_
  rintro e w4 ⟨p, r, L, rfl, T4, l4⟩
  have HR4 := Lib.hid T4.rs
  have HRl := Lib.hid T4.rel
  have HF4 := Lib.hid T4.fs
  have HN4 := Lib.hid (V.rs_one T4.rs)
  have HB4 := Lib.hid T4.fs.below
  have hLl : L.length ≤ 1000000 := by omega
  clear T4 HM l4 c0
  unfold V.rvV
  go_upto_region 4 with (refine wpList_store_row rfl 36 (.tmp 4) (.tmp 24) rfl w4.heap.size #[r.n, r.l, r.c, r.d, r.a, r.f] rfl rfl 36 V.nilsR (heap_alloc_new _ _) V.sizeRef rfl HN4.out ?_; rw [World.setRow_alloc_new])
  have HA5 := Lib.hid (show Below w4.heap.size w4 (w4.alloc (.cells #[r.n, r.l, r.c, r.d, r.a, r.f] 36)) from (Below.refl _ _).alloc (Nat.le_refl _) _)
  have HX5 := Lib.hid (heap_alloc_new w4 (.cells #[r.n, r.l, r.c, r.d, r.a, r.f] 36))
  generalize w4.alloc (.cells #[r.n, r.l, r.c, r.d, r.a, r.f] 36) = w5 at HA5 HX5 ⊢
  have HF5 := Lib.hid (HF4.out.keep HA5.out)
  have HR5 := Lib.hid (HR4.out.keep HA5.out)
  have HB35 := Lib.hid (below_two HB4.out HA5.out)
  have HB5 := Lib.hid (below_two HB3.out HB35.out)
  have HXa := Lib.hid ((HB35.out.block _ (heap_lt HX3.out)).trans HX3.out)
  generalize w4.heap.size = B4 at HX5 ⊢
  clear HF4 HR4 HN4 HA5 HB4 HX3 HB35 HB3
  have HC5 := Lib.hid (show ∀ X, Below w5.heap.size w5 X → X.heap[B0]? = some (.cells #[.slice a cs.length cap, .slice ea es.length ec, .int .i64 h.form, .int .i64 h.most, .int .i64 h.order, .bool h.rev, .bool h.dirs, .int .i64 h.clock, .int .i64 h.quote, .bool h.mark, .bool h.inode, .bool h.blocks, .int .i64 h.style, .string h.own, .int .i64 h.now, .int .i64 h.offset] 27) ∧ X.heap[B4]? = some (.cells #[r.n, r.l, r.c, r.d, r.a, r.f] 36) from fun X hb => ⟨(hb.block _ (heap_lt HXa.out)).trans HXa.out, (hb.block _ (heap_lt HX5.out)).trans HX5.out⟩)
  have hWb : ∀ X, Below w5.heap.size w5 X → Below w.heap.size w X := fun X hb => below_two HB5.out hb
  have HHs := Lib.hid (fun (i : Int) (X : World) (hb : Below w5.heap.size w5 X) => V.refHas_any M L r i X (HR5.out.keep hb))
  have HS5 := Lib.hid (fun (X : World) (hb : Below w5.heap.size w5 X) => psorted_any h es ea ec w3 X (HF5.out.keep hb) HG.out (HE.out X (hWb X hb)) (by omega) HZ.out)
  have HPl := Lib.hid (fun (X : World) (hb : Below w5.heap.size w5 X) => rows_any (plainH h) id es ea ec w3 X (HF5.out.keep hb) HG.out (HAt.out X (hWb X hb)).i (quote_zero rfl X) (HAt.out X (hWb X hb)).w (HE.out X (hWb X hb)) (by omega) HZ.out HN.out (plain_ok h) ⟨(by decide : (0 : Int) ≠ 1), (by decide : (0 : Int) ≠ 2), (by decide : (0 : Int) ≠ 3)⟩)
  have HLo := Lib.hid (fun (X : World) (hb : Below w5.heap.size w5 X) => rows_any (longH h) id es ea ec w3 X (HF5.out.keep hb) HG.out (HAt.out X (hWb X hb)).i (quote_zero rfl X) (HAt.out X (hWb X hb)).w (HE.out X (hWb X hb)) (by omega) HZ.out HN.out (long_ok h) ⟨(by decide : (4 : Int) ≠ 1), (by decide : (4 : Int) ≠ 2), (by decide : (4 : Int) ≠ 3)⟩)
  have HEn := Lib.hid (fun (X : World) (hb : Below w5.heap.size w5 X) => HE.out X (hWb X hb))
  have HWb := Lib.hid hWb
  have hTl := there_len M es
  unfold hwV at HS5 HPl HLo
  unfold plainH at HPl
  unfold longH at HLo
  dsimp only at HPl HLo
  unfold V.rvV at HHs
  clear hWb HF5 HR5 HRl HG HE HZ HX5 HXa HB5 HAt HN
  go_wp2_with fail
  go_loopw [5, 6] (CntRel M es w5) (fun _ v _ => es.length - (intOf v).toNat)
  case atStart => exact ⟨0, Nat.zero_le _, rfl, rfl, Lib.hid (Below.refl _ _)⟩
  case round =>
   obtain ⟨k, hk, rfl, rfl, HBr⟩ := hrel
   have q1 : wr.cell? ⟨B0, 1, none⟩ = some (.slice ea es.length ec) := by rw [cell_of_row _ _ _ _ _ _ (HC5.out _ HBr.out).1]; rfl
   have hkl := there_len M (es.take k)
   have hkl2 : (es.take k).length ≤ es.length := by rw [List.length_take]; omega
   by_cases hlt : k < es.length
   ·have d0 : decide ((k : Int) < (es.length : Int)) = true := decide_eq_true (by omega)
    obtain ⟨en, hen⟩ : ∃ en, es[k]? = some en := ⟨_, List.getElem?_eq_getElem hlt⟩
    obtain ⟨g, o, ha, _, _⟩ := (HEn.out _ HBr.out).at_ hen
    subst ha
    have HRg := Lib.hid (show ∀ X, Below wr.heap.size wr X → X.cell? ⟨g, o + k * 2 + 1, none⟩ = some (.int .i64 en.2) from fun X hb => by
     obtain ⟨g', o', e, _, r⟩ := (HEn.out X (HBr.out.trans (hb.mono HBr.out.size))).at_ hen
     simp only [Option.some.injEq, Addr.mk.injEq] at e
     obtain ⟨rfl, rfl, _⟩ := e
     exact r 1 _ rfl)
    have HTk := Lib.hid (show thereL M (es.take (k + 1)) = if V.nodeEr M en.2 = 0 then thereL M (es.take k) ++ [en] else thereL M (es.take k) from by rw [take_one hen, there_snoc])
    have HIf := Lib.hid (there_iff (M := M) en.2)
    clear hen
    go_upto_region 8 with fail
    clear q1
    obtain ⟨bb, hbb⟩ : ∃ bb, decide (0 ≤ en.2 ∧ en.2 < (M.length : Int)) = bb := ⟨_, rfl⟩
    have HBb := Lib.hid hbb
    have HHi := Lib.hid (fun (X : World) (hb : Below w5.heap.size w5 X) => HHs.out en.2 X hb)
    rw [hbb] at HHi
    clear hbb
    refine B.Till.region (z := 1000) (S := fun w' => Below wr.heap.size wr w') (by kernel_rfl) ((Below.refl _ _).drew) (fun hHeld => ?_)
    refine B.Till.takeA (i := 0) (oi := ⟨some 32, .load 36 (.tmp 4), 36, "law.go:63", #[], none⟩) (v := .agg #[r.n, r.l, r.c, r.d, r.a, r.f]) rfl (by kernel_rfl) (by kernel_rfl) (by kernel_rfl) (by kernel_rfl) (fun _ _ _ h => h) (yieldsIf_load_mid (by rfl) 36 (.tmp 4) rfl B4 0 rfl [r.n, r.l, r.c, r.d, r.a, r.f] _ (fun w0 hS0 => range_of ((HC5.out _ (HBr.out.trans (hS0.mono HBr.out.size))).2)) Tryz.underlying36 rfl V.sizeRef) (by assumption) ?_
    try simp only [u, lt, l0, ls]
    refine B.Till.tk 1 (oi := ⟨some 33, .fieldAddr 27 (.tmp 1) 1, 0, "law.go:63", #[], none⟩) (.pointer (some ⟨B0, 1, none⟩)) rfl (fun w0 hS0 => ?_) ?_
    ·go_simp
    try simp only [u, lt, l0, ls]
    refine B.Till.tk 2 (oi := ⟨some 34, .load 23 (.tmp 33), 23, "law.go:63", #[⟨1, .data⟩], none⟩) (.slice (some ⟨g, o, none⟩) es.length ec) rfl (fun w0 hS0 => ?_) ?_
    ·have b8 : w0.cell? ⟨B0, 1, none⟩ = some (.slice (some ⟨g, o, none⟩) es.length ec) := by rw [cell_of_row _ _ _ _ _ _ (HC5.out _ (HBr.out.trans (hS0.mono HBr.out.size))).1]; rfl
     go_simp
    try simp only [u, lt, l0, ls]
    refine B.Till.tk 3 (oi := ⟨some 35, .move (.tmp 6), 3, "law.go:63", #[], none⟩) (.int .i64 (k : Int)) rfl (fun w0 hS0 => ?_) ?_
    ·go_simp
    try simp only [u, lt, l0, ls]
    refine B.Till.tk 4 (oi := ⟨some 36, .indexAddr 23 (.tmp 34) (.tmp 35), 0, "law.go:63", #[⟨2, .data⟩, ⟨3, .data⟩], none⟩) (.pointer (some ⟨g, o + k * 2, none⟩)) rfl (fun w0 hS0 => ?_) ?_
    ·go_simp
    try simp only [u, lt, l0, ls]
    refine B.Till.tk 5 (oi := ⟨some 37, .fieldAddr 46 (.tmp 36) 1, 0, "law.go:63", #[⟨4, .data⟩], none⟩) (.pointer (some ⟨g, o + k * 2 + 1, none⟩)) rfl (fun w0 hS0 => ?_) ?_
    ·go_simp
    try simp only [u, lt, l0, ls]
    refine B.Till.tk 6 (oi := ⟨some 38, .load 3 (.tmp 37), 3, "law.go:63", #[⟨5, .data⟩], none⟩) (.int .i64 en.2) rfl (fun w0 hS0 => ?_) ?_
    ·have r1 := HRg.out _ hS0; go_simp
    try simp only [u, lt, l0, ls]
    refine B.Till.tn 7 rfl fun K hK => ?_
    go_simp
    refine (HHi.out _ (HBr.out.trans (hHeld.mono HBr.out.size))).mono ?_
    rintro e w7 ⟨rfl, hb7⟩
    have hH7 : Below wr.heap.size wr w7 := hHeld.trans (hb7.mono hHeld.size)
    clear hb7
    go_wp2_with fail
    refine hK.out _ _ (fun _ => hH7) ?_
    clear hK K
    try simp only [u, lt, l0, ls]
    refine B.Till.done (by kernel_rfl) ?_
    have HB7 := Lib.hid (HBr.out.trans (hH7.mono HBr.out.size))
    clear hHeld hH7
    cases bb with
    | false =>
     have HTn := Lib.hid (show thereL M (es.take (k + 1)) = thereL M (es.take k) from by rw [HTk.out, if_neg (fun q => absurd (HIf.out.1 q) (of_decide_eq_false HBb.out))])
     clear HTk HIf HBb
     go_wp2_with fail
     go_roundw
     case rel => exact ⟨k + 1, by omega, by simp, by rw [HTn.out], HB7⟩
     case measure => simp [intOf]; omega
    | true =>
     have HTn := Lib.hid (show thereL M (es.take (k + 1)) = thereL M (es.take k) ++ [en] from by rw [HTk.out, if_pos (HIf.out.2 (of_decide_eq_true HBb.out))])
     clear HTk HIf HBb
     go_wp2_with fail
     go_roundw
     case rel => exact ⟨k + 1, by omega, by simp, by rw [HTn.out, List.length_append]; simp, HB7⟩
     case measure => simp [intOf]; omega
   ·obtain rfl : k = es.length := by omega
    have d0 : decide (((es.length : Nat) : Int) < (es.length : Int)) = false := decide_eq_false (by omega)
    rw [List.take_length] at hkl ⊢
    obtain ⟨N0, hN0⟩ : ∃ N0, (thereL M es).length = N0 := ⟨_, rfl⟩
    have HN0 := Lib.hid hN0
    rw [hN0] at hTl ⊢
    clear hN0 hkl hkl2
    have HHm := Lib.hid (show ∀ X, Below w5.heap.size w5 X → X.rangeAt B0 2 [.int .i64 h.form, .int .i64 h.most, .int .i64 h.order, .bool h.rev, .bool h.dirs, .int .i64 h.clock, .int .i64 h.quote, .bool h.mark, .bool h.inode, .bool h.blocks, .int .i64 h.style, .string h.own, .int .i64 h.now, .int .i64 h.offset] from fun X hb => range_mid (xs := [.slice a cs.length cap, .slice ea es.length ec]) (ys := []) (HC5.out _ hb).1)
    go_wp2_with (refine wpList_load_mid rfl 25 (.tmp 45) rfl B0 2 rfl _ _ (HHm.out _ HBr.out) Tryz.underlying25 rfl sizeHw ?_)
    refine (HS5.out _ HBr.out).mono ?_
    rintro e w6 ⟨sv, T, rfl, hso, hos, hb6⟩
    have HSo := Lib.hid hso
    have HOs := Lib.hid hos
    have HB6 := Lib.hid (HBr.out.trans (hb6.mono HBr.out.size))
    have hTn : T.length = N0 := by rw [← HN0.out]; exact hso.len
    subst hTn
    obtain ⟨sa, sc, hsv⟩ := owns_form hos
    subst hsv
    clear hso hos hb6 q1 HS5
    have p1 : w6.cell? ⟨B0, 1, none⟩ = some (.slice ea es.length ec) := by rw [cell_of_row _ _ _ _ _ _ (HC5.out _ HB6.out).1]; rfl
    have p4 : w6.cell? ⟨B0, 4, none⟩ = some (.int .i64 h.order) := by rw [cell_of_row _ _ _ _ _ _ (HC5.out _ HB6.out).1]; rfl
    have p5 : w6.cell? ⟨B0, 5, none⟩ = some (.bool h.rev) := by rw [cell_of_row _ _ _ _ _ _ (HC5.out _ HB6.out).1]; rfl
    have p6 : w6.cell? ⟨B0, 6, none⟩ = some (.bool h.dirs) := by rw [cell_of_row _ _ _ _ _ _ (HC5.out _ HB6.out).1]; rfl
    have p7 : w6.cell? ⟨B0, 7, none⟩ = some (.int .i64 h.clock) := by rw [cell_of_row _ _ _ _ _ _ (HC5.out _ HB6.out).1]; rfl
    go_wp2_with fail
    refine (HPl.out _ HB6.out).mono ?_
    rintro e w7 ⟨pv, T2, rfl, hso, hop, hb7⟩
    have hT2 : T2 = T := hso.one HSo.out
    subst hT2
    have HOp := Lib.hid (show w7.ownsRow w6.heap.size 9 1 pv T2.length (strs (T2.map (·.1))) from by rw [← plain_all M h]; exact hop)
    have HOs7 := Lib.hid (owns_to HOs.out hb7)
    have HB7 := Lib.hid (HB6.out.trans (hb7.mono HB6.out.size))
    obtain ⟨pa, pc, hpv⟩ := owns_form hop
    subst hpv
    clear hso hop hb7 HOs p1 p4 p5 p6 p7 HPl
    have p1 : w7.cell? ⟨B0, 1, none⟩ = some (.slice ea es.length ec) := by rw [cell_of_row _ _ _ _ _ _ (HC5.out _ HB7.out).1]; rfl
    have p4 : w7.cell? ⟨B0, 4, none⟩ = some (.int .i64 h.order) := by rw [cell_of_row _ _ _ _ _ _ (HC5.out _ HB7.out).1]; rfl
    go_wp2_with fail
    refine (HLo.out _ HB7.out).mono ?_
    rintro e w8 ⟨lv, T3, rfl, hso, hol, hb8⟩
    have hT3 : T3.length = T2.length := hso.len.trans HN0.out
    obtain ⟨la, lc, hlv⟩ := owns_form hol
    subst hlv
    have HOp8 := Lib.hid (owns_to HOp.out hb8)
    have HOs8 := Lib.hid (owns_to HOs7.out hb8)
    have HB8 := Lib.hid (HB7.out.trans (hb8.mono HB7.out.size))
    rw [hT3]
    clear hso hol hb8 HOp HOs7 p1 p4 HLo hT3
    go_wp2_with fail
    go_loopw [10] (CmpRel T2 w8) (fun v _ => T2.length - (intOf v).toNat)
    case atStart => exact ⟨0, Nat.zero_le _, rfl, Lib.hid (Below.refl _ _)⟩
    case round =>
     obtain ⟨k, hk, rfl, HB⟩ := hrel
     by_cases hkn : k < T2.length
     ·have d1 : decide ((k : Int) < (T2.length : Int)) = true := decide_eq_true (by omega)
      obtain ⟨en, hen⟩ : ∃ en, T2[k]? = some en := ⟨_, List.getElem?_eq_getElem (by omega)⟩
      obtain ⟨gs, cs', hv, _, _⟩ := owns_some HOs8.out (show 0 < T2.length by omega)
      simp only [Value.slice.injEq] at hv
      obtain ⟨rfl, _, rfl⟩ := hv
      obtain ⟨gp, cp', hv, _, _⟩ := owns_some HOp8.out (show 0 < T2.length by omega)
      simp only [Value.slice.injEq] at hv
      obtain ⟨rfl, _, rfl⟩ := hv
      have s0 : wr.cell? ⟨gs, k * 2, none⟩ = some (.string en.1) := owns_cell (owns_to HOs8.out HB.out) (by
       have := cellsC_get enC_len T2 k 0 en hen (by decide)
       rw [Nat.add_zero] at this
       rw [this]
       rfl)
      have p0 : wr.cell? ⟨gp, k, none⟩ = some (.string en.1) := owns_cell (owns_to HOp8.out HB.out) (by unfold strs; rw [List.getElem?_map, List.getElem?_map, hen]; rfl)
      clear hen
      go_upto_region 18 with fail
      go_quiet (fail)
      have HBd := Lib.hid (show Below w8.heap.size w8 (wr.drewN nq) from below_drewNb HB.out)
      go_wp2_with fail
      go_roundw
      case rel => exact ⟨k + 1, by omega, by simp, HBd⟩
      case measure => simp [intOf]; omega
     ·obtain rfl : k = T2.length := by omega
      have d1 : decide (((T2.length : Nat) : Int) < ((T2.length : Nat) : Int)) = false := decide_eq_false (by omega)
      go_wp2_with fail
      go_ret
      exact ⟨rfl, HWb.out _ (HB8.out.trans (HB.out.mono HB8.out.size))⟩
end Go.Proofs.YtfhagjnlliafiaaGreatDoor.I
