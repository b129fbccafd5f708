/-
 That the law ListSorts returns true.
 Conditions: each fact's own.
-/
import Derived.Test.YtfhagjnlliafiaaGreatDoorKIAwake
import Derived.Test.YtfhagjnlliafiaaGreatDoorKIRefT
set_option linter.unusedSimpArgs false
set_option linter.unusedVariables false
set_option maxHeartbeats 16000000
set_option maxRecDepth 100000
open List renaming setIfInBounds_toArray → lt, set_cons_zero → l0, set_cons_succ → ls
open Go.Act renaming put → u
namespace Go.Proofs.YtfhagjnlliafiaaGreatDoor.I
open Go.Proofs.YtfhagjnlliafiaaGreatDoor.B
open Go.RowKit
theorem ents_same : ∀ l : List En, V.entsEq l l = true := fun l => V.entsEq_self l
theorem sizeAsk : (Tryz.prog.info? 27).map (·.size) = some 16 := by kernel_rfl
theorem sorts_any (cs : List V.Chg) (a : Option Addr) (cap : Nat) (es : List En) (ea : Option Addr) (ec : Nat) (h : Hw) (w : World) (H : V.IsChgs w a cs) (E : EntL w ea es) (ht : ATab w) (hl : cs.length ≤ 9223372036854775807) (hw : ∀ c ∈ cs, V.WideC c) (hel : es.length ≤ 9223372036854775807) (hez : ∀ e ∈ es, e.1.size ≤ 9223372036854775807) (ho : h.own.size ≤ 9223372036854775807) :
  Calls Tryz.prog 3 #[askedV a cs.length cap ea es.length ec h] w fun e w' => e = .returned (.bool true) ∧ Below w.heap.size w w' := by
 have HFw := Lib.hid (fun X (hb : Below w.heap.size w X) => askedFew_any cs a cap es ea ec h 40 X (H.keep hb) (E.keep hb) hl (fun c hc => ⟨(hw c hc).name, (hw c hc).text⟩) hel hez ho)
 have HMd := Lib.hid (fun (X : World) (hb : Below w.heap.size w X) (h4 : cs.length ≤ 400) (hf : V.FewL cs) => V.made_any cs a cap X (H.keep hb) h4 hf (fun c hc => ⟨(hw c hc).lo, (hw c hc).hi⟩))
 have HAw := Lib.hid (fun (X : World) (hb : Below w.heap.size w X) => awoken_any X (ht.keep hb))
 have HGd := Lib.hid (fun (h4 : cs.length ≤ 400) (hf : V.FewL cs) => goodI_run cs h4 hf (fun c hc => ⟨(hw c hc).lo, (hw c hc).hi⟩))
 have HE := Lib.hid (fun (X : World) (hb : Below w.heap.size w X) => E.keep hb)
 clear H E ht hw hez ho
 unfold askedV at HFw ⊢
 go_enter Tryz.func3, Tryz.ntmps3
 go_upto_region 1 with fail
 obtain ⟨B0, hB0⟩ : ∃ B0, w.heap.size = B0 := ⟨_, rfl⟩
 obtain ⟨w1, hw1⟩ : ∃ w1, w.alloc (.cells #[.slice a cs.length cap, .slice ea es.length ec, .int .i64 h.form, .int .i64 h.most, .int .i64 h.order, .bool h.rev, .bool h.dirs, .int .i64 h.clock, .int .i64 h.quote, .bool h.mark, .bool h.inode, .bool h.blocks, .int .i64 h.style, .string h.own, .int .i64 h.now, .int .i64 h.offset] 27) = w1 := ⟨_, rfl⟩
 have HB1 := Lib.hid (show Below w.heap.size w w1 from by rw [← hw1]; exact (Below.refl _ _).alloc (Nat.le_refl _) _)
 have HX1 := Lib.hid (show w1.heap[B0]? = some (.cells #[.slice a cs.length cap, .slice ea es.length ec, .int .i64 h.form, .int .i64 h.most, .int .i64 h.order, .bool h.rev, .bool h.dirs, .int .i64 h.clock, .int .i64 h.quote, .bool h.mark, .bool h.inode, .bool h.blocks, .int .i64 h.style, .string h.own, .int .i64 h.now, .int .i64 h.offset] 27) from by rw [← hw1, ← hB0]; exact heap_alloc_new _ _)
 rw [hw1, hB0]
 clear hw1 hB0
 go_wp2_with fail
 refine (HAw.out _ HB1.out).mono ?_
 rintro e w2 ⟨rfl, hb2⟩
 have HB2 := Lib.hid (below_two HB1.out hb2)
 have HX2 := Lib.hid ((hb2.block _ (heap_lt HX1.out)).trans HX1.out)
 clear hb2 HX1 HB1
 have k0 : w2.cell? ⟨B0, 0, none⟩ = some (.slice a cs.length cap) := by rw [cell_of_row _ _ _ _ _ _ HX2.out]; rfl
 have k1 : w2.cell? ⟨B0, 1, none⟩ = some (.slice ea es.length ec) := by rw [cell_of_row _ _ _ _ _ _ HX2.out]; rfl
 have k2 : w2.cell? ⟨B0, 2, none⟩ = some (.int .i64 h.form) := by rw [cell_of_row _ _ _ _ _ _ HX2.out]; rfl
 have k3 : w2.cell? ⟨B0, 3, none⟩ = some (.int .i64 h.most) := by rw [cell_of_row _ _ _ _ _ _ HX2.out]; rfl
 have k4 : w2.cell? ⟨B0, 4, none⟩ = some (.int .i64 h.order) := by rw [cell_of_row _ _ _ _ _ _ HX2.out]; rfl
 have k5 : w2.cell? ⟨B0, 5, none⟩ = some (.bool h.rev) := by rw [cell_of_row _ _ _ _ _ _ HX2.out]; rfl
 have k6 : w2.cell? ⟨B0, 6, none⟩ = some (.bool h.dirs) := by rw [cell_of_row _ _ _ _ _ _ HX2.out]; rfl
 have k7 : w2.cell? ⟨B0, 7, none⟩ = some (.int .i64 h.clock) := by rw [cell_of_row _ _ _ _ _ _ HX2.out]; rfl
 have k8 : w2.cell? ⟨B0, 8, none⟩ = some (.int .i64 h.quote) := by rw [cell_of_row _ _ _ _ _ _ HX2.out]; rfl
 have k9 : w2.cell? ⟨B0, 9, none⟩ = some (.bool h.mark) := by rw [cell_of_row _ _ _ _ _ _ HX2.out]; rfl
 have k10 : w2.cell? ⟨B0, 10, none⟩ = some (.bool h.inode) := by rw [cell_of_row _ _ _ _ _ _ HX2.out]; rfl
 have k11 : w2.cell? ⟨B0, 11, none⟩ = some (.bool h.blocks) := by rw [cell_of_row _ _ _ _ _ _ HX2.out]; rfl
 have k12 : w2.cell? ⟨B0, 12, none⟩ = some (.int .i64 h.style) := by rw [cell_of_row _ _ _ _ _ _ HX2.out]; rfl
 have k13 : w2.cell? ⟨B0, 13, none⟩ = some (.string h.own) := by rw [cell_of_row _ _ _ _ _ _ HX2.out]; rfl
 have k14 : w2.cell? ⟨B0, 14, none⟩ = some (.int .i64 h.now) := by rw [cell_of_row _ _ _ _ _ _ HX2.out]; rfl
 have k15 : w2.cell? ⟨B0, 15, none⟩ = some (.int .i64 h.offset) := by rw [cell_of_row _ _ _ _ _ _ HX2.out]; rfl
 go_wp2_with fail
 refine (HFw.out _ HB2.out).mono ?_
 rintro e w3 ⟨b, rfl, hb, hb3⟩
 have HBb := Lib.hid hb
 have HB3 := Lib.hid (below_two HB2.out hb3)
 have HX3 := Lib.hid ((hb3.block _ (heap_lt HX2.out)).trans HX2.out)
 clear hb hb3 HX2 HB2 HFw k0 k1 k2 k3 k4 k5 k6 k7 k8 k9 k10 k11 k12 k13 k14 k15
 cases b with
 | false =>
  go_wp2_with fail
  refine (HAw.out _ HB3.out).mono ?_
  rintro e w4 ⟨rfl, hb4⟩
  have HB4 := Lib.hid (below_two HB3.out hb4)
  clear hb4
  go_wp2_with fail
  go_ret
  exact ⟨rfl, HB4.out⟩
 | true =>
  have hF := (show (V.FewL cs ∧ (cs.length : Int) ≤ 40) ∧ es.length ≤ 12 ∧ (∀ e ∈ es, e.1.size ≤ 60) ∧ h.own.size ≤ 30 from by first | exact HBb.out rfl | exact HBb.out trivial)
  have hl6 : cs.length ≤ 40 := by omega
  have he12 := hF.2.1
  have HM := Lib.hid (HMd.out _ HB3.out (by omega) hF.1.1)
  have HG := Lib.hid (HGd.out (by omega) hF.1.1)
  have HZ := Lib.hid (show ∀ e ∈ es, e.1.size ≤ 60000 from fun e he => by have := hF.2.2.1 e he; omega)
  clear HMd HGd HBb hF HAw
  generalize V.runM cs V.newM = M at HM HG
  have c0 : w3.cell? ⟨B0, 0, none⟩ = some (.slice a cs.length cap) := by rw [cell_of_row _ _ _ _ _ _ HX3.out]; rfl
  go_upto_region 3 with fail
  go_wp2_with fail
  refine HM.out.mono ?_
  rintro e w4 ⟨p, r, L, rfl, T4, l4⟩
  have HR4 := Lib.hid T4.rs
  have HRl := Lib.hid T4.rel
  have HF4 := Lib.hid T4.fs
  have HN4 := Lib.hid (V.rs_one T4.rs)
  have HB4 := Lib.hid T4.fs.below
  have hLl : L.length ≤ 1000000 := by omega
  clear T4 HM l4 c0
  unfold V.rvV
  go_upto_region 4 with (refine wpList_store_row rfl 36 (.tmp 4) (.tmp 18) rfl w4.heap.size #[r.n, r.l, r.c, r.d, r.a, r.f] rfl rfl 36 V.nilsR (heap_alloc_new _ _) V.sizeRef rfl HN4.out ?_; rw [World.setRow_alloc_new])
  have HA5 := Lib.hid (show Below w4.heap.size w4 (w4.alloc (.cells #[r.n, r.l, r.c, r.d, r.a, r.f] 36)) from (Below.refl _ _).alloc (Nat.le_refl _) _)
  have HX5 := Lib.hid (heap_alloc_new w4 (.cells #[r.n, r.l, r.c, r.d, r.a, r.f] 36))
  generalize w4.alloc (.cells #[r.n, r.l, r.c, r.d, r.a, r.f] 36) = w5 at HA5 HX5 ⊢
  have HF5 := Lib.hid (HF4.out.keep HA5.out)
  have HR5 := Lib.hid (HR4.out.keep HA5.out)
  have HB35 := Lib.hid (below_two HB4.out HA5.out)
  have HB5 := Lib.hid (below_two HB3.out HB35.out)
  have HXa := Lib.hid ((HB35.out.block _ (heap_lt HX3.out)).trans HX3.out)
  generalize w4.heap.size = B4 at HX5 ⊢
  clear HF4 HR4 HN4 HA5 HB4 HX3 HB35 HB3
  have HC5 := Lib.hid (show ∀ X, Below w5.heap.size w5 X → X.heap[B0]? = some (.cells #[.slice a cs.length cap, .slice ea es.length ec, .int .i64 h.form, .int .i64 h.most, .int .i64 h.order, .bool h.rev, .bool h.dirs, .int .i64 h.clock, .int .i64 h.quote, .bool h.mark, .bool h.inode, .bool h.blocks, .int .i64 h.style, .string h.own, .int .i64 h.now, .int .i64 h.offset] 27) ∧ X.heap[B4]? = some (.cells #[r.n, r.l, r.c, r.d, r.a, r.f] 36) from fun X hb => ⟨(hb.block _ (heap_lt HXa.out)).trans HXa.out, (hb.block _ (heap_lt HX5.out)).trans HX5.out⟩)
  have hWb : ∀ X, Below w5.heap.size w5 X → Below w.heap.size w X := fun X hb => below_two HB5.out hb
  have HS5 := Lib.hid (fun (X : World) (hb : Below w5.heap.size w5 X) => psorted_any h es ea ec w3 X (HF5.out.keep hb) HG.out (HE.out X (hWb X hb)) (by omega) HZ.out)
  have HS11 := Lib.hid (fun (out : List En) (hS : SortedI M h.order h.rev h.dirs h.clock es out) (X : World) (hb : Below w5.heap.size w5 X) => rsorted_any h es out ea ec X (HR5.out.keep hb) HRl.out HG.out hLl (HE.out X (hWb X hb)) (by omega) HZ.out hS)
  have HS17 := Lib.hid (fun (X : World) (hb : Below w5.heap.size w5 X) => ptotal_any es ea ec w3 X (HF5.out.keep hb) HG.out (HE.out X (hWb X hb)) (by omega))
  have HS21 := Lib.hid (fun (X : World) (hb : Below w5.heap.size w5 X) => rtotal_any es ea ec X (HR5.out.keep hb) HRl.out HG.out hLl (HE.out X (hWb X hb)) (by omega))
  have HTl := Lib.hid (show ∀ out : List En, SortedI M h.order h.rev h.dirs h.clock es out → out.length ≤ 1000000 from fun out hS => by have := hS.len; have := there_len M es; omega)
  have HWb := Lib.hid hWb
  unfold V.rvV at HS11 HS21
  unfold hwV at HS5 HS11
  clear hWb HF5 HR5 HRl HG HE HZ HX5 HXa HB5
  generalize N.ceilZ (blocksI M es) 2 = tot at HS17 HS21
  refine B.Till.region (z := 1000) (S := fun w' => Below w5.heap.size w5 w') (by kernel_rfl) ((Below.refl _ _).drew) (fun hHeld => ?_)
  refine B.Till.tk 0 (oi := ⟨some 19, .move (.tmp 3), 30, "law.go:52", #[], none⟩) (.pointer (some ⟨p, 0, none⟩)) rfl (fun w0 hS0 => ?_) ?_
  ·go_simp
  try simp only [u, lt, l0, ls]
  refine B.Till.tk 1 (oi := ⟨some 20, .fieldAddr 27 (.tmp 1) 1, 0, "law.go:52", #[], none⟩) (.pointer (some ⟨B0, 1, none⟩)) rfl (fun w0 hS0 => ?_) ?_
  ·go_simp
  try simp only [u, lt, l0, ls]
  refine B.Till.tk 2 (oi := ⟨some 21, .load 23 (.tmp 20), 23, "law.go:52", #[⟨1, .data⟩], none⟩) (.slice ea es.length ec) rfl (fun w0 hS0 => ?_) ?_
  ·have b8 : w0.cell? ⟨B0, 1, none⟩ = some (.slice ea es.length ec) := by rw [cell_of_row _ _ _ _ _ _ (HC5.out _ hS0).1]; rfl
   go_simp
  try simp only [u, lt, l0, ls]
  refine B.Till.tk 3 (oi := ⟨some 22, .fieldAddr 27 (.tmp 1) 2, 0, "law.go:52", #[], none⟩) (.pointer (some ⟨B0, 2, none⟩)) rfl (fun w0 hS0 => ?_) ?_
  ·go_simp
  try simp only [u, lt, l0, ls]
  refine B.Till.takeA (i := 4) (oi := ⟨some 23, .load 25 (.tmp 22), 25, "law.go:52", #[⟨3, .data⟩], none⟩) (v := .agg #[.int .i64 h.form, .int .i64 h.most, .int .i64 h.order, .bool h.rev, .bool h.dirs, .int .i64 h.clock, .int .i64 h.quote, .bool h.mark, .bool h.inode, .bool h.blocks, .int .i64 h.style, .string h.own, .int .i64 h.now, .int .i64 h.offset]) rfl (by kernel_rfl) (by kernel_rfl) (by kernel_rfl) (by kernel_rfl) (fun _ _ _ h => h) (yieldsIf_load_mid (by rfl) 25 (.tmp 22) rfl B0 2 rfl [.int .i64 h.form, .int .i64 h.most, .int .i64 h.order, .bool h.rev, .bool h.dirs, .int .i64 h.clock, .int .i64 h.quote, .bool h.mark, .bool h.inode, .bool h.blocks, .int .i64 h.style, .string h.own, .int .i64 h.now, .int .i64 h.offset] _ (fun w0 hS0 => range_mid (xs := [.slice a cs.length cap, .slice ea es.length ec]) (ys := []) (HC5.out _ hS0).1) Tryz.underlying25 rfl sizeHw) (by assumption) ?_
  try simp only [u, lt, l0, ls]
  refine B.Till.takeA (i := 6) (oi := ⟨some 25, .load 36 (.tmp 4), 36, "law.go:52", #[], none⟩) (v := .agg #[r.n, r.l, r.c, r.d, r.a, r.f]) rfl (by kernel_rfl) (by kernel_rfl) (by kernel_rfl) (by kernel_rfl) (fun _ _ _ h => h) (yieldsIf_load_mid (by rfl) 36 (.tmp 4) rfl B4 0 rfl [r.n, r.l, r.c, r.d, r.a, r.f] _ (fun w0 hS0 => range_of ((HC5.out _ hS0).2)) Tryz.underlying36 rfl V.sizeRef) (by assumption) ?_
  try simp only [u, lt, l0, ls]
  refine B.Till.tk 7 (oi := ⟨some 26, .fieldAddr 27 (.tmp 1) 1, 0, "law.go:52", #[], none⟩) (.pointer (some ⟨B0, 1, none⟩)) rfl (fun w0 hS0 => ?_) ?_
  ·go_simp
  try simp only [u, lt, l0, ls]
  refine B.Till.tk 8 (oi := ⟨some 27, .load 23 (.tmp 26), 23, "law.go:52", #[⟨7, .data⟩], none⟩) (.slice ea es.length ec) rfl (fun w0 hS0 => ?_) ?_
  ·have b8 : w0.cell? ⟨B0, 1, none⟩ = some (.slice ea es.length ec) := by rw [cell_of_row _ _ _ _ _ _ (HC5.out _ hS0).1]; rfl
   go_simp
  try simp only [u, lt, l0, ls]
  refine B.Till.tk 9 (oi := ⟨some 28, .fieldAddr 27 (.tmp 1) 2, 0, "law.go:52", #[], none⟩) (.pointer (some ⟨B0, 2, none⟩)) rfl (fun w0 hS0 => ?_) ?_
  ·go_simp
  try simp only [u, lt, l0, ls]
  refine B.Till.takeA (i := 10) (oi := ⟨some 29, .load 25 (.tmp 28), 25, "law.go:52", #[⟨9, .data⟩], none⟩) (v := .agg #[.int .i64 h.form, .int .i64 h.most, .int .i64 h.order, .bool h.rev, .bool h.dirs, .int .i64 h.clock, .int .i64 h.quote, .bool h.mark, .bool h.inode, .bool h.blocks, .int .i64 h.style, .string h.own, .int .i64 h.now, .int .i64 h.offset]) rfl (by kernel_rfl) (by kernel_rfl) (by kernel_rfl) (by kernel_rfl) (fun _ _ _ h => h) (yieldsIf_load_mid (by rfl) 25 (.tmp 28) rfl B0 2 rfl [.int .i64 h.form, .int .i64 h.most, .int .i64 h.order, .bool h.rev, .bool h.dirs, .int .i64 h.clock, .int .i64 h.quote, .bool h.mark, .bool h.inode, .bool h.blocks, .int .i64 h.style, .string h.own, .int .i64 h.now, .int .i64 h.offset] _ (fun w0 hS0 => range_mid (xs := [.slice a cs.length cap, .slice ea es.length ec]) (ys := []) (HC5.out _ hS0).1) Tryz.underlying25 rfl sizeHw) (by assumption) ?_
  try simp only [u, lt, l0, ls]
  refine B.Till.tn 5 rfl fun K hK => ?_
  go_simp
  refine (HS5.out _ hHeld).mono ?_
  rintro e w6 ⟨sv, out, rfl, hso, hos, hb6⟩
  have hH6 : Below w5.heap.size w5 w6 := hHeld.trans (hb6.mono hHeld.size)
  have HSo := Lib.hid hso
  have HOs := Lib.hid hos
  clear hso hos hb6
  go_wp2_with fail
  refine hK.out _ _ (fun _ => hH6) ?_
  clear hK K
  try simp only [u, lt, l0, ls]
  refine B.Till.tn 11 rfl fun K hK => ?_
  go_simp
  refine (HS11.out out HSo.out _ hH6).mono ?_
  rintro e w7 ⟨rv, rfl, hor, hb7⟩
  have hH7 : Below w5.heap.size w5 w7 := hH6.trans (hb7.mono hH6.size)
  have HOr := Lib.hid hor
  have HOs7 := Lib.hid (owns_to HOs.out hb7)
  clear hor hb7
  go_wp2_with fail
  refine hK.out _ _ (fun _ => hH7) ?_
  clear hK K
  try simp only [u, lt, l0, ls]
  refine B.Till.tn 12 rfl fun K hK => ?_
  go_simp
  refine (V.rsame_any sv rv out out _ (by rw [← enC_ents]; exact owns_low HOs7.out (Nat.zero_le _)) (by rw [← enC_ents]; exact owns_low HOr.out (Nat.zero_le _)) (HTl.out out HSo.out) (HTl.out out HSo.out)).mono ?_
  rintro e w8 ⟨rfl, q8, rfl⟩
  rw [ents_same]
  have hH8 : Below w5.heap.size w5 (w7.drewN q8) := below_drewNb hH7
  go_wp2_with fail
  refine hK.out _ _ (fun _ => hH8) ?_
  clear hK K
  try simp only [u, lt, l0, ls]
  refine B.Till.tk 13 (oi := ⟨some 32, .move (.tmp 31), 4, "law.go:52", #[⟨12, .data⟩, ⟨12, .chain⟩], none⟩) (.bool true) rfl (fun w0 hS0 => ?_) ?_
  ·go_simp
  try simp only [u, lt, l0, ls]
  refine B.Till.tk 14 (oi := ⟨some 33, .move (.tmp 3), 30, "law.go:52", #[⟨13, .guard⟩], some (13, true)⟩) (.pointer (some ⟨p, 0, none⟩)) rfl (fun w0 hS0 => ?_) ?_
  ·go_simp
  try simp only [u, lt, l0, ls]
  refine B.Till.tk 15 (oi := ⟨some 34, .fieldAddr 27 (.tmp 1) 1, 0, "law.go:52", #[⟨13, .guard⟩], some (13, true)⟩) (.pointer (some ⟨B0, 1, none⟩)) rfl (fun w0 hS0 => ?_) ?_
  ·go_simp
  try simp only [u, lt, l0, ls]
  refine B.Till.tk 16 (oi := ⟨some 35, .load 23 (.tmp 34), 23, "law.go:52", #[⟨15, .data⟩, ⟨13, .guard⟩], some (13, true)⟩) (.slice ea es.length ec) rfl (fun w0 hS0 => ?_) ?_
  ·have b8 : w0.cell? ⟨B0, 1, none⟩ = some (.slice ea es.length ec) := by rw [cell_of_row _ _ _ _ _ _ (HC5.out _ hS0).1]; rfl
   go_simp
  try simp only [u, lt, l0, ls]
  refine B.Till.takeA (i := 18) (oi := ⟨some 37, .load 36 (.tmp 4), 36, "law.go:52", #[⟨13, .guard⟩], some (13, true)⟩) (v := .agg #[r.n, r.l, r.c, r.d, r.a, r.f]) rfl (by kernel_rfl) (by kernel_rfl) (by kernel_rfl) (by kernel_rfl) (fun _ _ _ h => h) (yieldsIf_load_mid (by rfl) 36 (.tmp 4) rfl B4 0 rfl [r.n, r.l, r.c, r.d, r.a, r.f] _ (fun w0 hS0 => range_of ((HC5.out _ hS0).2)) Tryz.underlying36 rfl V.sizeRef) (by assumption) ?_
  try simp only [u, lt, l0, ls]
  refine B.Till.tk 19 (oi := ⟨some 38, .fieldAddr 27 (.tmp 1) 1, 0, "law.go:52", #[⟨13, .guard⟩], some (13, true)⟩) (.pointer (some ⟨B0, 1, none⟩)) rfl (fun w0 hS0 => ?_) ?_
  ·go_simp
  try simp only [u, lt, l0, ls]
  refine B.Till.tk 20 (oi := ⟨some 39, .load 23 (.tmp 38), 23, "law.go:52", #[⟨19, .data⟩, ⟨13, .guard⟩], some (13, true)⟩) (.slice ea es.length ec) rfl (fun w0 hS0 => ?_) ?_
  ·have b8 : w0.cell? ⟨B0, 1, none⟩ = some (.slice ea es.length ec) := by rw [cell_of_row _ _ _ _ _ _ (HC5.out _ hS0).1]; rfl
   go_simp
  try simp only [u, lt, l0, ls]
  refine B.Till.tn 17 rfl fun K hK => ?_
  go_simp
  refine (HS17.out _ hH8).mono ?_
  rintro e w17 ⟨rfl, hb17⟩
  have hH17 : Below w5.heap.size w5 w17 := hH8.trans (hb17.mono hH8.size)
  clear hb17
  go_wp2_with fail
  refine hK.out _ _ (fun _ => hH17) ?_
  clear hK K
  try simp only [u, lt, l0, ls]
  refine B.Till.tn 21 rfl fun K hK => ?_
  go_simp
  refine (HS21.out _ hH17).mono ?_
  rintro e w21 ⟨rfl, hb21⟩
  have hH21 : Below w5.heap.size w5 w21 := hH17.trans (hb21.mono hH17.size)
  clear hb21
  go_wp2_with fail
  refine hK.out _ _ (fun _ => hH21) ?_
  clear hK K
  try simp only [u, lt, l0, ls]
  refine B.Till.tk 22 (oi := ⟨some 41, .binOp .eql 2 (.tmp 36) (.tmp 40) 2, 4, "law.go:52", #[⟨17, .data⟩, ⟨21, .data⟩, ⟨13, .guard⟩], some (13, true)⟩) (.bool true) rfl (fun w0 hS0 => ?_) ?_
  ·go_simp
  try simp only [u, lt, l0, ls]
  refine B.Till.tk 23 (oi := ⟨some 42, .pick (.tmp 32) (.tmp 41) (.const (.bool false)), 4, "law.go:52", #[⟨13, .data⟩, ⟨22, .data⟩], none⟩) (.bool true) rfl (fun w0 hS0 => ?_) ?_
  ·go_simp
  try simp only [u, lt, l0, ls]
  refine B.Till.tk 24 (oi := ⟨some 2, .assign (.tmp 42), 4, "law.go:52", #[⟨23, .data⟩, ⟨21, .chain⟩, ⟨0, .phase⟩, ⟨1, .phase⟩, ⟨2, .phase⟩, ⟨3, .phase⟩, ⟨4, .phase⟩, ⟨5, .phase⟩, ⟨6, .phase⟩, ⟨7, .phase⟩, ⟨8, .phase⟩, ⟨9, .phase⟩, ⟨10, .phase⟩, ⟨11, .phase⟩, ⟨12, .phase⟩, ⟨13, .phase⟩, ⟨14, .phase⟩, ⟨15, .phase⟩, ⟨16, .phase⟩, ⟨17, .phase⟩, ⟨18, .phase⟩, ⟨19, .phase⟩, ⟨20, .phase⟩, ⟨21, .phase⟩, ⟨22, .phase⟩, ⟨23, .phase⟩], none⟩) (.bool true) rfl (fun w0 hS0 => ?_) ?_
  ·go_simp
  try simp only [u, lt, l0, ls]
  refine B.Till.done (by kernel_rfl) ?_
  go_wp2_with fail
  go_ret
  exact ⟨rfl, HWb.out _ hH21⟩
end Go.Proofs.YtfhagjnlliafiaaGreatDoor.I
