/-
  What the walk's small steps do with what lies in memory: the one on top, whether it is done, its end. Conditions: something is open; at most 1000000 visits.
  What slices.IndexFunc and slices.DeleteFunc return of a row of entries that was made, with roam's isHidden: the row without those that begin with a point. Conditions: at most 1000000 entries.
-/
import Derived.Test.YtpikndeefiediaaGreatDoorKGMem
import Derived.Test.YtpikndeefiediaaGreatDoorKGTab
import Derived.StillTailTactics
import Derived.Deep.MidRow
import Derived.Deep.WholeRow
import Derived.Deep.RegionLaw
import Derived.Test.YtpikndeefiediaaGreatDoorShelf
import Derived.Laws.CopyRow
set_option linter.unusedVariables false
set_option linter.unusedSimpArgs false
namespace Go.Proofs.YtpikndeefiediaaGreatDoor.G
open List renaming setIfInBounds_toArray → lt, set_cons_zero → l0, set_cons_succ → ls
open Go.RowKit

theorem infoVis : (Tryz.prog.info? 82).map (fun i => (i.zero, i.size, i.bytes)) = some (some (.agg #[.int .i64 0, .int .i64 0, .string ⟨#[]⟩, .string ⟨#[]⟩, .bool false, .bool false, .int .i64 0]), 7, 64) := by kernel_rfl
theorem sizeVis : (Tryz.prog.info? 82).map (·.size) = some 7 := by kernel_rfl
theorem sizeEnt : (Tryz.prog.info? 45).map (·.size) = some 2 := by kernel_rfl
theorem drewn_below {B n : Nat} {w w' : World} (hb : Below B w w') : Below B w (w'.drewN n) := ⟨hb.os, hb.tape, hb.output, hb.size, hb.block⟩

section
variable {W0 : World} {R nb : Nat} {nc : Array Value} {b p : Nat} {u g most : Int} {all : Bool} {D : List Vis} {vv : Value} {w : World}
set_option maxRecDepth 100000 in
theorem top_any {x : Fr} {r : List Fr} {k cap : Nat} (h : Wk W0 R nb nc b p u g most all (x :: r) D (.slice (some ⟨k, 0, none⟩) (r.length + 1) cap) vv w) (hr : r.length ≤ 1000) :
    Calls Tryz.prog 52 #[.pointer (some ⟨b, 0, none⟩)] w fun e w' => e = .returned (.pointer (some ⟨k, r.length * 8, none⟩)) ∧ Below w.heap.size w w' := by
  have c5 := h.cell (j := 5) rfl
  have hw : IntKind.i64.wrap (((r.length + 1 : Nat) : Int) - 1) = (r.length : Int) := by rw [IntWalk.i64_in _ (by omega)]; omega
  have hl : r.length < r.length + 1 := by omega
  clear h
  go_enter Tryz.func52, Tryz.ntmps52
  go_wp2_with fail
  go_quiet (fail)
  go_wp2_with fail
  go_ret
  exact ⟨rfl, drewn_below (Below.refl _ _)⟩

set_option maxRecDepth 100000 in
theorem done_any {x : Fr} {r : List Fr} {k cap : Nat} (h : Wk W0 R nb nc b p u g most all (x :: r) D (.slice (some ⟨k, 0, none⟩) (r.length + 1) cap) vv w) (hr : r.length ≤ 1000) :
    Calls Tryz.prog 34 #[.pointer (some ⟨b, 0, none⟩)] w fun e w' => e = .returned (.bool (decide (x.l = []))) ∧ Below w.heap.size w w' := by
  obtain ⟨a, c, hv, _⟩ := h.ents x List.mem_cons_self
  have HT := Lib.hid (top_any h hr)
  have HC := Lib.hid (show ∀ W, Below w.heap.size w W → W.cell? ⟨k, r.length * 8 + 7, none⟩ = some (.slice a x.l.length c) from fun W hb => by rw [← hv]; exact (h.keep hb).top rfl)
  have HL := Lib.hid (show ((x.l.length : Int) == 0) = decide (x.l = []) from by
    cases x.l with
    | nil => rfl
    | cons y l => rw [decide_eq_false (by simp), beq_eq_false_iff_ne, List.length_cons]; omega)
  clear h hv
  go_enter Tryz.func34, Tryz.ntmps34
  go_wp2_with fail
  refine HT.out.mono ?_
  rintro e w2 ⟨rfl, hb⟩
  have c7 := HC.out _ hb
  have HB := Lib.hid hb
  clear hb
  go_wp2_with fail
  go_ret
  exact ⟨by rw [HL.out]; rfl, HB.out⟩

set_option maxRecDepth 100000 in
set_option maxHeartbeats 4000000 in
theorem close_any {x : Fr} {r : List Fr} {k cap : Nat} (h : Wk W0 R nb nc b p u g most all (x :: r) D (.slice (some ⟨k, 0, none⟩) (r.length + 1) cap) vv w) (hr : r.length ≤ 1000) (hD : D.length ≤ 1000000) :
    Calls Tryz.prog 35 #[.pointer (some ⟨b, 0, none⟩)] w fun e w' => e = .returned (.tuple #[]) ∧ ∃ sv' vv', Wk W0 R nb nc b p u g most all r (D ++ [overV x.v]) sv' vv' w' := by
  obtain ⟨i0, hi0, hz0, hz1, hz2⟩ := info_parts infoVis
  obtain ⟨_, _, _, hcap, _, _⟩ := h.stack (by simp)
  have hcp : r.length + 1 ≤ cap := by
    rcases h.stk.2 with ⟨q, _⟩ | ⟨k', cap', cur, hv, hB, hg, hnc, _⟩
    · cases q
    · simp only [Value.slice.injEq, Option.some.injEq, Addr.mk.injEq] at hv
      obtain ⟨_, _, rfl⟩ := hv
      exact hnc
  have HT := Lib.hid (top_any h hr)
  have HH := Lib.hid h
  clear h hcap
  go_enter Tryz.func35, Tryz.ntmps35
  go_wp2_with fail
  refine HT.out.mono ?_
  rintro e w2 ⟨rfl, hb⟩
  have HW2 := Lib.hid (HH.out.keep hb)
  clear hb HT HH
  have HR := Lib.hid (show w2.rangeAt k (r.length * 8) (visC x.v) from fun j v hj => by
    refine HW2.out.top (j := j) ?_
    have : j < 7 := (List.getElem?_eq_some_iff.1 hj).1
    show (visC x.v ++ [x.lv])[j]? = some v
    rw [List.getElem?_append_left this]
    exact hj)
  go_upto_region 1 with (first
    | (refine wpList_load_mid rfl 82 (.tmp 6) rfl k (r.length * 8) rfl (visC x.v) _ HR.out Tryz.underlying82 rfl sizeVis ?_)
    | (refine wpList_store_row rfl 82 (.tmp 2) (.tmp 7) rfl w2.heap.size (visC x.v).toArray rfl rfl _ _ (heap_alloc_new _ _) sizeVis rfl (all_oneCell_toArray (visC_one x.v)) ?_; rw [World.setRow_alloc_new]))
  have HX := Lib.hid (heap_alloc_new w2 (.cells (visC x.v).toArray 82))
  have HW2a := Lib.hid (HW2.out.keep ((Below.refl _ _).alloc (Nat.le_refl _) (.cells (visC x.v).toArray 82)))
  generalize w2.alloc (.cells (visC x.v).toArray 82) = wa at HX HW2a ⊢
  obtain ⟨B1, hB1⟩ : ∃ B1, w2.heap.size = B1 := ⟨_, rfl⟩
  have HGe := Lib.hid (show W0.heap.size ≤ B1 ∧ nb ≠ B1 from by rw [← hB1]; exact ⟨HW2.out.low.size, fun e => by have := HW2.out.lt; have := HW2.out.rle; omega⟩)
  have HNe0 := Lib.hid (show B1 ≠ b ∧ (∀ j, vv.ownBlock = some j → j ≠ B1) ∧ k ≠ B1 from by
    rw [← hB1]
    refine ⟨fun e => ?_, fun j hj e => ?_, fun e => ?_⟩
    · have := B.heap_lt HW2.out.head; omega
    · have := (HW2.out.vis.lt j hj).2; omega
    · have := (HW2.out.stk.lt k rfl).2; omega)
  rw [hB1] at HX ⊢
  clear HR HW2 hB1
  have c5 : wa.cell? ⟨B1, 5, none⟩ = some (.bool x.v.over) := by rw [cell_of_row _ _ _ _ _ _ HX.out]; rfl
  have f5 : wa.frozen? ⟨B1, 5, none⟩ = false := frozen_of_row _ _ _ _ _ HX.out
  go_upto_region 2 with fail
  have HX3 := Lib.hid (show (wa.setCell ⟨B1, 5, none⟩ (.bool true)).heap[B1]? = some (.cells (visC (overV x.v)).toArray 82 (0, 0)) from by rw [heap_setCell_same _ _ _ _ _ _ HX.out]; rfl)
  have HW3 := Lib.hid (show Wk W0 R nb nc b p u g most all (x :: r) D (.slice (some ⟨k, 0, none⟩) (r.length + 1) cap) vv (wa.setCell ⟨B1, 5, none⟩ (.bool true)) from by
    obtain ⟨h1, h2, h3, h4, h5, h6, h7, h8, h9, h10⟩ := HW2a.out
    refine ⟨?_, B.owns_at h2 fun j hj => heap_setCell_other _ _ _ _ ?_, B.owns_at h3 fun j hj => heap_setCell_other _ _ _ _ (HNe0.out.2.1 j hj), fun y hy => (h4 y hy).at_ fun j cur _ hj => ?_, h5.setCell HGe.out.1 _, h6, by rw [heap_setCell_other _ _ _ _ HGe.out.2]; exact h7, h8, h9, by simpa [World.setCell] using h10⟩
    · rw [heap_setCell_other _ _ _ _ (fun e => HNe0.out.1 e.symm)]; exact h1
    · obtain rfl : k = j := Option.some.inj hj
      exact HNe0.out.2.2
    · rw [heap_setCell_other _ _ _ _ (by rintro rfl; rw [HX.out] at hj; simp at hj)]; exact hj)
  generalize wa.setCell ⟨B1, 5, none⟩ (.bool true) = w3 at HX3 HW3 ⊢
  clear c5 f5 HX HW2a HGe
  have HCb := Lib.hid (show ∀ W : World, W.heap[b]? = w3.heap[b]? → W.cell? ⟨b, 5, none⟩ = some (.slice (some ⟨k, 0, none⟩) (r.length + 1) cap) ∧ W.cell? ⟨b, 6, none⟩ = some vv ∧ W.frozen? ⟨b, 6, none⟩ = false from fun W hW => by
    have q := hW.trans HW3.out.head
    refine ⟨?_, ?_, frozen_of_row _ _ _ _ _ q⟩ <;> (rw [cell_of_row _ _ _ _ _ _ q]; rfl))
  have HCx := Lib.hid (show ∀ W : World, W.heap[B1]? = w3.heap[B1]? → W.cell? ⟨B1, 0, none⟩ = some (.int .i64 (overV x.v).id) ∧ W.cell? ⟨B1, 1, none⟩ = some (.int .i64 (overV x.v).depth) ∧ W.cell? ⟨B1, 2, none⟩ = some (.string (overV x.v).name) ∧ W.cell? ⟨B1, 3, none⟩ = some (.string (overV x.v).base) ∧ W.cell? ⟨B1, 4, none⟩ = some (.bool (overV x.v).last) ∧ W.cell? ⟨B1, 5, none⟩ = some (.bool (overV x.v).over) ∧ W.cell? ⟨B1, 6, none⟩ = some (.int .i64 (overV x.v).err) from fun W hW => by
    have q := hW.trans HX3.out
    refine ⟨?_, ?_, ?_, ?_, ?_, ?_, ?_⟩ <;> (rw [cell_of_row _ _ _ _ _ _ q]; rfl))
  have HLb := Lib.hid (show b < w3.heap.size from B.heap_lt HW3.out.head)
  have HLx := Lib.hid (show B1 < w3.heap.size from B.heap_lt HX3.out)
  have HNb := Lib.hid (show some b ≠ vv.ownBlock from fun e => HW3.out.v_ne e.symm rfl)
  have HNx := Lib.hid (show some B1 ≠ vv.ownBlock from fun e => HNe0.out.2.1 _ e.symm rfl)
  have HLb2 := Lib.hid (show b < (w3.drew.alloc (.cells (visC (overV x.v)).toArray 82)).heap.size from by have := HLb.out; simp; omega)
  have HLx2 := Lib.hid (show B1 < (w3.drew.alloc (.cells (visC (overV x.v)).toArray 82)).heap.size from by have := HLx.out; simp; omega)
  have HW3a := Lib.hid (HW3.out.keep (show Below w3.heap.size w3 (w3.drew.alloc (.cells (visC (overV x.v)).toArray 82)) from ((Below.refl _ _).drew).alloc (Nat.le_refl _) _))
  have HO3 := Lib.hid HW3a.out.vis
  have HG3 := Lib.hid (show R ≤ (w3.drew.alloc (.cells (visC (overV x.v)).toArray 82)).heap.size from HW3a.out.rle)
  have HW3' := Lib.hid HW3.out
  clear HW3
  have HW3 := Lib.hid HW3a.out
  clear HW3a
-- TILL 1
  refine B.Till.region (z := 10) (S := fun w' => w'.heap[b]? = w3.heap[b]? ∧ w'.heap[B1]? = w3.heap[B1]?) (by kernel_rfl) ⟨rfl, rfl⟩ (fun hHeld => ?_)
  refine B.Till.take (i := 0) (oi := ⟨some 9, .move (.tmp 0), 110, "roam.go:133", #[], none⟩) (v := .pointer (some ⟨b, 0, none⟩)) rfl (by kernel_rfl) (by kernel_rfl) (by kernel_rfl) (by kernel_rfl) (fun _ _ _ h => h) (Or.inl ⟨by rfl, fun w0 hS0 => ?_⟩) (by assumption) ?_
  · go_simp
  try simp only [Act.put, lt, l0, ls]
  refine B.Till.take (i := 1) (oi := ⟨some 10, .move (.tmp 0), 110, "roam.go:133", #[], none⟩) (v := .pointer (some ⟨b, 0, none⟩)) rfl (by kernel_rfl) (by kernel_rfl) (by kernel_rfl) (by kernel_rfl) (fun _ _ _ h => h) (Or.inl ⟨by rfl, fun w0 hS0 => ?_⟩) (by assumption) ?_
  · go_simp
  try simp only [Act.put, lt, l0, ls]
  refine B.Till.take (i := 2) (oi := ⟨some 11, .nilCheck (.tmp 10), 0, "roam.go:133", #[⟨1, .data⟩], none⟩) (v := .pointer (some ⟨b, 0, none⟩)) rfl (by kernel_rfl) (by kernel_rfl) (by kernel_rfl) (by kernel_rfl) (fun _ _ _ h => h) (Or.inl ⟨by rfl, fun w0 hS0 => ?_⟩) (by assumption) ?_
  · go_simp
  try simp only [Act.put, lt, l0, ls]
  refine B.Till.take (i := 3) (oi := ⟨some 12, .fieldAddr 95 (.tmp 11) 5, 0, "roam.go:133", #[⟨2, .data⟩], none⟩) (v := .pointer (some ⟨b, 6, none⟩)) rfl (by kernel_rfl) (by kernel_rfl) (by kernel_rfl) (by kernel_rfl) (fun _ _ _ h => h) (Or.inl ⟨by rfl, fun w0 hS0 => ?_⟩) (by assumption) ?_
  · go_simp
  try simp only [Act.put, lt, l0, ls]
  refine B.Till.take (i := 4) (oi := ⟨some 13, .load 79 (.tmp 12), 79, "roam.go:133", #[⟨3, .data⟩], none⟩) (v := vv) rfl (by kernel_rfl) (by kernel_rfl) (by kernel_rfl) (by kernel_rfl) (fun _ _ _ h => h) (Or.inl ⟨by rfl, fun w0 hS0 => ?_⟩) (by assumption) ?_
  · have c6 := (HCb.out _ hS0.1).2.1; go_simp
  try simp only [Act.put, lt, l0, ls]
  refine B.Till.take (i := 5) (oi := ⟨some 14, .load 82 (.tmp 2), 82, "roam.go:133", #[], none⟩) (v := .agg #[.int .i64 (overV x.v).id, .int .i64 (overV x.v).depth, .string (overV x.v).name, .string (overV x.v).base, .bool (overV x.v).last, .bool (overV x.v).over, .int .i64 (overV x.v).err]) rfl (by kernel_rfl) (by kernel_rfl) (by kernel_rfl) (by kernel_rfl) (fun _ _ _ h => h) (Or.inl ⟨by rfl, fun w0 hS0 => ?_⟩) (by assumption) ?_
  · obtain ⟨r0, r1, r2, r3, r4, r5, r6⟩ := HCx.out _ hS0.2; go_simp
  try simp only [Act.put, lt, l0, ls]
  refine B.Till.next (i := 6) (o := ⟨some 15, .buildSlice 79 1 #[(0, .tmp 14)], 79, "roam.go:133", #[⟨5, .data⟩], none⟩) (by kernel_rfl) rfl (fun K hK => ?_)
  go_simp
  refine hK.out _ _ (fun _ => ⟨(heap_alloc_old _ _ HLb.out).trans hHeld.1, (heap_alloc_old _ _ HLx.out).trans hHeld.2⟩) ?_
  clear hK K
  try simp only [Act.put, lt, l0, ls]
  refine B.Till.next (i := 7) (o := ⟨some 16, .call ⟨.builtin .append, #[.tmp 13, .tmp 15], #[79, 79]⟩, 79, "roam.go:133", #[⟨4, .data⟩, ⟨6, .data⟩], none⟩) (by kernel_rfl) rfl (fun K hK => ?_)
  refine step_append_lies _ rfl (.tmp 13) (.tmp 15) 79 rfl R 82 i0 _ 7 64 Tryz.underlying79 hi0 hz0 hz1 hz2 rfl (by decide) vv D.length (rowsC visC D) (by simp [Act.eval]) HO3.out ⟨w3.heap.size, 0, none⟩ 1 1 (visC (overV x.v)) (by simp [Act.eval]) rfl (World.news_of_block (heap_alloc_new _ _)) (visC_one _) (by decide) (by unfold maxLen; omega) (by omega) HG3.out _ rfl ?_
  intro g1 cap1 w4 hown hgrow hat hlt1
  have hS4 : w4.heap[b]? = w3.heap[b]? ∧ w4.heap[B1]? = w3.heap[B1]? := ⟨(hgrow.block _ HLb2.out HNb.out).trans (heap_alloc_old _ _ HLb.out), (hgrow.block _ HLx2.out HNx.out).trans (heap_alloc_old _ _ HLx.out)⟩
  have HW4 := Lib.hid ((HW3.out).visit (E := [(overV x.v)]) hown hgrow)
  clear hown hgrow hat hlt1
  refine hK.out _ _ (fun _ => hS4) ?_
  clear hK K
  try simp only [Act.put, lt, l0, ls]
  refine B.Till.next (i := 8) (o := ⟨some 17, .nilCheck (.tmp 9), 0, "roam.go:133", #[⟨0, .data⟩, ⟨0, .phase⟩, ⟨1, .phase⟩, ⟨2, .phase⟩, ⟨3, .phase⟩, ⟨4, .phase⟩, ⟨5, .phase⟩, ⟨6, .phase⟩, ⟨7, .phase⟩], none⟩) (by kernel_rfl) rfl (fun K hK => ?_)
  go_simp
  refine hK.out _ _ (fun _ => hS4) ?_
  clear hK K
  try simp only [Act.put, lt, l0, ls]
  refine B.Till.next (i := 9) (o := ⟨some 18, .fieldAddr 95 (.tmp 17) 5, 0, "roam.go:133", #[⟨8, .data⟩, ⟨0, .phase⟩, ⟨1, .phase⟩, ⟨2, .phase⟩, ⟨3, .phase⟩, ⟨4, .phase⟩, ⟨5, .phase⟩, ⟨6, .phase⟩, ⟨7, .phase⟩], none⟩) (by kernel_rfl) rfl (fun K hK => ?_)
  go_simp
  refine hK.out _ _ (fun _ => hS4) ?_
  clear hK K
  try simp only [Act.put, lt, l0, ls]
  refine B.Till.next (i := 10) (o := ⟨none, .store 79 (.tmp 18) (.tmp 16), 0, "roam.go:133", #[⟨9, .data⟩, ⟨7, .data⟩, ⟨7, .chain⟩, ⟨0, .phase⟩, ⟨1, .phase⟩, ⟨2, .phase⟩, ⟨3, .phase⟩, ⟨4, .phase⟩, ⟨5, .phase⟩, ⟨6, .phase⟩, ⟨7, .phase⟩], none⟩) (by kernel_rfl) rfl (fun K hK => ?_)
  obtain ⟨_, c6, f6⟩ := HCb.out _ hS4.1
  go_simp
  refine hK.out _ _ (fun q => absurd rfl q) ?_
  clear hK K
  try simp only [Act.put, lt, l0, ls]
  refine B.Till.done (by kernel_rfl) ?_
-- TILL 1 END
  generalize w4.setCell ⟨b, 6, none⟩ (.slice (some ⟨g1, 0, none⟩) (D.length + 1) cap1) = w5 at HW4 ⊢
  clear c6 f6 hS4 hHeld HW3 HW3' HO3 HG3 HLb2 HLx2 HNb HNx HLb HLx HCb HCx HX3 HNe0
  have hw : IntKind.i64.wrap (((r.length + 1 : Nat) : Int) - 1) = (r.length : Int) := by rw [IntWalk.i64_in _ (by omega)]; omega
  have hw2 : IntKind.i64.wrap (r.length : Int) = (r.length : Int) := IntWalk.i64_in _ (by omega)
  have hl : r.length ≤ cap := by omega
  have c5 : w5.cell? ⟨b, 5, none⟩ = some (.slice (some ⟨k, 0, none⟩) (r.length + 1) cap) := HW4.out.cell (j := 5) rfl
  go_upto_region 3 with fail
  go_still_tail 14, (by kernel_rfl)
  change wpList _ _ _ _ _ w5.drew
  have HW6 := Lib.hid (HW4.out.keep (drewn_below (n := 1) (Below.refl _ _)))
  change Hid (Wk W0 R nb nc b p u g most all (x :: r) _ _ _ w5.drew) at HW6
  clear c5 HW4
  generalize w5.drew = w6 at HW6 ⊢
  have c5 := HW6.out.cell (j := 5) rfl
  have f5 := HW6.out.free 5
  have HW7 := Lib.hid HW6.out.pop
  go_wp2_with fail
  go_end0
  exact ⟨rfl, _, _, HW7.out⟩
end
end Go.Proofs.YtpikndeefiediaaGreatDoor.G

namespace Go.Proofs.YtpikndeefiediaaGreatDoor.G
open List renaming setIfInBounds_toArray → lt, set_cons_zero → l0, set_cons_succ → ls
open Go.RowKit

abbrev Ent := ByteArray × Int
def hidB (e : Ent) : Bool := e.1.data.toList.head? == some 46
theorem prefix_point (l : List UInt8) : Lib.hasPrefix l [46] = (l.head? == some 46) := by
  unfold Lib.hasPrefix
  cases l with
  | nil => rfl
  | cons a r =>
    show ((46 : UInt8) == a && true) = _
    rw [Bool.and_true, List.head?_cons, Bool.eq_iff_iff]
    exact ⟨fun h => by rw [beq_iff_eq] at h ⊢; rw [h], fun h => by rw [beq_iff_eq] at h ⊢; exact (Option.some.inj h).symm⟩
theorem hidden_any (e : Ent) (w : World) :
    Calls Tryz.prog 64 #[.agg #[.string e.1, .int .i64 e.2]] w fun x w' => x = .returned (.bool (hidB e)) ∧ Below w.heap.size w w' := by
  have HP := Lib.hid (fun W => Tryz.strings_HasPrefix e.1 ⟨#[46]⟩ W)
  have hp : Lib.hasPrefix e.1.data.toList (⟨#[46]⟩ : ByteArray).data.toList = hidB e := prefix_point _
  rw [hp] at HP
  clear hp
  go_enter Tryz.func64, Tryz.ntmps64
  go_wp2_with fail
  refine (HP.out _).mono ?_
  rintro x w' ⟨rfl, rfl⟩
  go_wp2_with fail
  go_ret
  exact ⟨rfl, (Below.refl _ _).alloc (Nat.le_refl _) _⟩

def IdxRel (l : List Ent) (w : World) (v : Value) (wr : World) : Prop :=
  ∃ k : Nat, k ≤ l.length ∧ v = .int .i64 (k : Int) ∧ Hid (Below w.heap.size w wr) ∧ Hid (∀ (j : Nat) (e : Ent), j < k → l[j]? = some e → hidB e = false)
/-- The first one that is hidden, or none. -/
def FirstH (l : List Ent) (r : Int) : Prop := (r = -1 ∧ ∀ e ∈ l, hidB e = false) ∨ ∃ (i : Nat) (e : Ent), r = (i : Int) ∧ l[i]? = some e ∧ hidB e = true ∧ ∀ (j : Nat) (x : Ent), j < i → l[j]? = some x → hidB x = false
set_option maxRecDepth 100000 in
set_option maxHeartbeats 4000000 in
theorem index_any (v : Value) (l : List Ent) (b : Nat) (w : World) (H : w.ownsRow b 45 2 v l.length (rowsC enC' l)) (hl : l.length ≤ 1000000) :
    Calls Tryz.prog 72 #[v, .func (.func 64) #[] #[]] w fun x w' => ∃ r, x = .returned (.int .i64 r) ∧ FirstH l r ∧ Below w.heap.size w w' := by
  obtain ⟨ao, cap, rfl⟩ := B.owns_form H
  have HH := Lib.hid H
  clear H
  go_enter Tryz.func72, Tryz.ntmps72
  go_wp2_with fail
  go_loopw [8] (IdxRel l w) (fun v _ => l.length - (intOf v).toNat)
  case atStart => exact ⟨0, Nat.zero_le _, rfl, Lib.hid (Below.refl _ _), Lib.hid (fun j e hj => by omega)⟩
  case round =>
    obtain ⟨k, hk, rfl, HB, HN⟩ := hrel
    by_cases hlt : k < l.length
    · have d1 : decide ((k : Int) < (l.length : Int)) = true := decide_eq_true (by omega)
      obtain ⟨e, he⟩ : ∃ e, l[k]? = some e := ⟨_, List.getElem?_eq_getElem hlt⟩
      have HE := Lib.hid he
      obtain ⟨g, c2, hv, _, _⟩ := B.owns_some HH.out (by omega)
      simp only [Value.slice.injEq] at hv
      obtain ⟨rfl, _, rfl⟩ := hv
      have HW := Lib.hid (B.owns_to HH.out HB.out)
      have r0 : wr.cell? ⟨g, k * 2, none⟩ = some (.string e.1) := B.owns_cell HW.out ((rowsC_get enC'_len _ _ 0 _ he (by decide)).trans rfl)
      have r1 : wr.cell? ⟨g, k * 2 + 1, none⟩ = some (.int .i64 e.2) := B.owns_cell HW.out ((rowsC_get enC'_len _ _ 1 _ he (by decide)).trans rfl)
      clear he
      go_wp2_with fail
      refine (hidden_any e wr).mono ?_
      rintro x w2 ⟨rfl, hb⟩
      have HB2 := Lib.hid (HB.out.trans (hb.mono HB.out.size))
      clear hb r0 r1
      cases hh : hidB e with
      | true =>
        have HHe := Lib.hid hh
        clear hh
        go_wp2_with fail
        go_ret
        exact ⟨_, rfl, .inr ⟨k, e, rfl, HE.out, HHe.out, HN.out⟩, HB2.out⟩
      | false =>
        have HHe := Lib.hid hh
        clear hh
        go_wp2_with fail
        go_roundw
        case rel => exact ⟨k + 1, by omega, by simp, HB2, Lib.hid (fun j x hj hx => by
          rcases Nat.lt_or_ge j k with q | q
          · exact HN.out j x q hx
          · obtain rfl : j = k := by omega
            rw [HE.out] at hx
            obtain rfl := Option.some.inj hx
            exact HHe.out)⟩
        case measure => simp [intOf]; omega
    · have d1 : decide ((k : Int) < (l.length : Int)) = false := decide_eq_false (by omega)
      obtain rfl : k = l.length := by omega
      go_wp2_with fail
      go_ret
      exact ⟨_, rfl, .inl ⟨rfl, fun e he => by
        obtain ⟨j, hj⟩ := List.mem_iff_getElem?.1 he
        exact HN.out j e (List.getElem?_eq_some_iff.1 hj).1 hj⟩, HB.out⟩

/-! ### those that are hidden deleted -/
def keepL (l : List Ent) : List Ent := l.filter fun e => !hidB e
/-- What the deleting holds: i are kept of the first j, at the front; from j on all is as it was. -/
def DelOk (l Z : List Ent) (i j : Nat) : Prop := Z.length = l.length ∧ Z.take i = keepL (l.take j) ∧ Z.drop j = l.drop j ∧ i < j
theorem DelOk.start {l : List Ent} {i : Nat} {e : Ent} (he : l[i]? = some e) (hh : hidB e = true) (hb : ∀ (j : Nat) (x : Ent), j < i → l[j]? = some x → hidB x = false) : DelOk l l i (i + 1) := by
  refine ⟨rfl, ?_, rfl, by omega⟩
  unfold keepL
  rw [List.take_add_one, he, List.filter_append]
  have h1 : [e].filter (fun e => !hidB e) = [] := by rw [List.filter_cons, if_neg (by rw [hh]; decide), List.filter_nil]
  have h2 : (l.take i).filter (fun e => !hidB e) = l.take i := List.filter_eq_self.2 fun x hx => by
    obtain ⟨j, hj⟩ := List.mem_iff_getElem?.1 hx
    have hlt : j < i := by
      have := (List.getElem?_eq_some_iff.1 hj).1
      rw [List.length_take] at this
      omega
    rw [List.getElem?_take, if_pos hlt] at hj
    rw [hb j x hlt hj]
    rfl
  show l.take i = _ ++ [e].filter _
  rw [h1, h2, List.append_nil]
theorem DelOk.at_ {l Z : List Ent} {i j : Nat} (h : DelOk l Z i j) {e : Ent} (he : l[j]? = some e) : Z[j]? = some e := by
  have h1 := congrArg (fun x => x[0]?) h.2.2.1
  simp only [List.getElem?_drop, Nat.add_zero] at h1
  rw [h1, he]
theorem take_snoc {l : List Ent} {j : Nat} {e : Ent} (he : l[j]? = some e) : l.take (j + 1) = l.take j ++ [e] := by
  rw [List.take_add_one, he]; rfl
theorem drop_next {l Z : List Ent} {j : Nat} (h : Z.drop j = l.drop j) : Z.drop (j + 1) = l.drop (j + 1) := by
  have := congrArg (List.drop 1) h
  rwa [List.drop_drop, List.drop_drop] at this
theorem DelOk.skip {l Z : List Ent} {i j : Nat} (h : DelOk l Z i j) {e : Ent} (he : l[j]? = some e) (hh : hidB e = true) : DelOk l Z i (j + 1) := by
  refine ⟨h.1, ?_, drop_next h.2.2.1, by have := h.2.2.2; omega⟩
  rw [take_snoc he, h.2.1]
  unfold keepL
  rw [List.filter_append, show [e].filter (fun e => !hidB e) = [] by rw [List.filter_cons, if_neg (by rw [hh]; decide), List.filter_nil], List.append_nil]
theorem DelOk.put {l Z : List Ent} {i j : Nat} (h : DelOk l Z i j) {e : Ent} (he : l[j]? = some e) (hh : hidB e = false) : DelOk l (Z.set i e) (i + 1) (j + 1) := by
  have hj : j < l.length := (List.getElem?_eq_some_iff.1 he).1
  have hlt := h.2.2.2
  refine ⟨by rw [List.length_set]; exact h.1, ?_, ?_, by omega⟩
  · rw [take_snoc (by rw [List.getElem?_set, if_pos rfl, if_pos (by rw [h.1]; omega)]), List.take_set_of_le (Nat.le_refl i), h.2.1, take_snoc he]
    unfold keepL
    rw [List.filter_append, show [e].filter (fun e => !hidB e) = [e] by rw [List.filter_cons, if_pos (by rw [hh]; rfl), List.filter_nil]]
  · rw [List.drop_set_of_lt (by omega)]
    exact drop_next h.2.2.1
theorem infoEnt : (Tryz.prog.info? 45).map (fun i => (i.zero, i.size, i.bytes)) = some (some (.agg #[.string ⟨#[]⟩, .int .i64 0]), 2, 24) := by kernel_rfl
/-- Two cells of an own row stored. -/
theorem owns_pair {w : World} {b g n cap : Nat} {Z : List Ent} (h : w.ownsRow b 45 2 (.slice (some ⟨g, 0, none⟩) n cap) n (rowsC enC' Z)) {i : Nat} (hi : i < Z.length) (e : Ent) :
    (w.setCells g (i * 2) [.string e.1, .int .i64 e.2]).ownsRow b 45 2 (.slice (some ⟨g, 0, none⟩) n cap) n (rowsC enC' (Z.set i e)) := by
  obtain ⟨x, hx⟩ : ∃ x, Z[i]? = some x := ⟨_, List.getElem?_eq_getElem hi⟩
  have hlen := rowsC_len enC'_len Z
  have h1 := B.owns_setCell h (j := i * 2 + 0) (by rw [hlen]; omega) (.string e.1)
  rw [rowsC_set enC'_len Z i 0 x (e.1, x.2) (.string e.1) hx (by decide) rfl] at h1
  have h2 := B.owns_setCell h1 (j := i * 2 + 1) (by rw [rowsC_len enC'_len, List.length_set]; omega) (.int .i64 e.2)
  rw [rowsC_set enC'_len (Z.set i (e.1, x.2)) i 1 (e.1, x.2) e (.int .i64 e.2) (by rw [List.getElem?_set, if_pos rfl, if_pos hi]) (by decide) rfl, List.set_set] at h2
  exact h2
theorem zeros_len (z : Array Value) (hz : z.size = 2) (n : Nat) : (Builtin.zeroCells z n).toList.length = n * 2 := by
  simp [Builtin.zeroCells, hz]
theorem zeros_one (n : Nat) : ∀ u ∈ (Builtin.zeroCells #[.string ⟨#[]⟩, .int .i64 0] n).toList, u.oneCell' = true := by
  intro u hu
  simp only [Builtin.zeroCells, Array.toList_map, List.mem_map] at hu
  obtain ⟨k, _, rfl⟩ := hu
  have : k % 2 = 0 ∨ k % 2 = 1 := by omega
  show Value.oneCell' ((#[Value.string ⟨#[]⟩, Value.int .i64 0] : Array Value)[k % 2]!) = true
  rcases this with h | h <;> (rw [h]; rfl)
end Go.Proofs.YtpikndeefiediaaGreatDoor.G
