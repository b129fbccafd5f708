/-
  What the reader's small steps do: the next argument, an operand, an option, the end of the options. Conditions: at most 100000 arguments, options and operands.
-/
import Derived.Test.YtboolblccahadaaAMem
import Derived.Deep.WholeRow
import Derived.StillTailTactics
set_option linter.unusedVariables false
set_option linter.unusedSimpArgs false
namespace Go.Proofs.Ytboolblccahadaa.A
open Go.Proofs.Ytboolblccahadaa.B
open Go.RowKit

section
variable {W0 : World} {b : Nat} {sa : Option Addr} {sn sc : Nat} {la : Option Addr} {lc : Nat} {L : List ByteArray} {O : List Op} {P : List ByteArray} {ov pv : Value} {w : World}
theorem next_any {x : ByteArray} (h : Rdr W0 b sa sn sc la lc (x :: L) O P ov pv w) :
    Calls Try.prog 15 #[.pointer (some ⟨b, 0, none⟩)] w fun e w' => e = .returned (.string x) ∧ (∃ la' lc', Rdr W0 b sa sn sc la' lc' L O P ov pv w') ∧ ∀ k, k ≠ b → w'.heap[k]? = w.heap[k]? := by
  obtain ⟨g, o, rfl, hg, hr, ht⟩ := h.left.tail
  obtain ⟨hc1, hc2, _⟩ := h.lcap
  rw [List.length_cons] at hc1
  have c1 : w.cell? ⟨b, 1, none⟩ = some (.slice (some ⟨g, o, none⟩) (L.length + 1) lc) := h.cell (j := 1) rfl
  have f1 := h.free 1
  have cx : w.cell? ⟨g, o, none⟩ = some (.string x) := (h.low.cell (p := ⟨g, o, none⟩) hg).trans (hr 0 _ rfl)
  have HH := Lib.hid h
  have HT := Lib.hid ht
  have hw1 : IntKind.i64.wrap (((L.length + 1 : Nat) : Int)) = ((L.length + 1 : Nat) : Int) := IntWalk.i64_in _ (by unfold maxLen at hc2; omega)
  clear h hr ht hg
  by_cases h1 : lc = 1
  · obtain rfl : L = [] := List.eq_nil_of_length_eq_zero (by omega)
    subst h1
    go_enter Try.func15, Try.ntmps15
    go_wp2_with fail
    go_ret
    exact ⟨rfl, ⟨_, _, HH.out.take (la' := some ⟨g, o, none⟩) (lc' := 0) (L' := []) (RowL.nil _ _) ⟨by decide, by decide, fun _ => rfl⟩⟩, fun k hk => heap_setCell_other _ _ _ _ hk⟩
  · go_enter Try.func15, Try.ntmps15
    go_wp2_with fail
    go_ret
    exact ⟨rfl, ⟨_, _, HH.out.take HT.out ⟨by omega, by omega, fun q => by cases q⟩⟩, fun k hk => heap_setCell_other _ _ _ _ hk⟩
/-- The reader's cells where its block is as it was. -/
theorem Rdr.same (h : Rdr W0 b sa sn sc la lc L O P ov pv w) {W : World} (hW : W.heap[b]? = w.heap[b]?) : W.cell? ⟨b, 1, none⟩ = some (.slice la L.length lc) ∧ W.cell? ⟨b, 2, none⟩ = some ov ∧ W.cell? ⟨b, 3, none⟩ = some pv ∧ (∀ j, W.frozen? ⟨b, j, none⟩ = false) := by
  have q := hW.trans h.head
  refine ⟨?_, ?_, ?_, fun j => frozen_of_row _ _ _ _ _ q⟩ <;> (rw [cell_of_row _ _ _ _ _ _ q]; rfl)

set_option maxHeartbeats 1000000 in
theorem operand_any (x : ByteArray) (h : Rdr W0 b sa sn sc la lc L O P ov pv w) (hP : P.length ≤ 100000) :
    Calls Try.prog 25 #[.pointer (some ⟨b, 0, none⟩), .string x] w fun e w' => Took W0 b sa sn sc (some (O, P ++ [x], L)) e w' := by
  obtain ⟨it, hit, ht0, ht1, ht2⟩ := info_parts infoTxt
  have HS := Lib.hid (fun W hW => h.same (W := W) hW)
  have c3 := (HS.out w rfl).2.2.1
  have HB := Lib.hid h.lt
  have HN := Lib.hid (fun k hk => h.p_ne (k := k) hk)
  have HO := Lib.hid h.opnd
  have HG := Lib.hid h.low.size
  have HK := Lib.hid (h.keep ((Below.refl _ _).alloc (Nat.le_refl _) (.cells #[.string x] 9)))
  clear h
  go_enter Try.func25, Try.ntmps25
  go_wp2_with (at_builtin; go_loud (refine wpList_append_lies _ rfl (.tmp 9) (.tmp 11) 23 rfl W0.heap.size 9 it (.string ⟨#[]⟩) 1 16 Try.underlying23 hit ht0 ht1 ht2 rfl (by decide) _ _ _ rfl (HO.out.alloc _) ⟨w.heap.size, 0, none⟩ 1 1 [.string x] rfl rfl (World.news_of_block (heap_alloc_new _ _)) (by intro u hu; simp at hu; subst hu; rfl) (by decide) (by unfold maxLen; omega) (by omega) (by have := HG.out; simp; omega) _ rfl ?_; intro g5 cap5 w5 hown hgrow hat hlt; have hb5 := (hgrow.block b (by have := HB.out; simp; omega) (fun e => HN.out _ e.symm rfl)).trans (heap_alloc_old _ _ HB.out); have c5 := (HS.out _ hb5).2.2.1; have f5 := (HS.out _ hb5).2.2.2 3; have HX := Lib.hid (HK.out.operand (E := [x]) hown hgrow); clear hown hgrow hat hlt hb5))
  go_ret
  exact Took.yes HX.out

set_option maxRecDepth 100000 in
set_option maxHeartbeats 4000000 in
theorem add_any (s : Sp) (v : ByteArray) (h : Rdr W0 b sa sn sc la lc L O P ov pv w) (hO : O.length ≤ 100000) :
    Calls Try.prog 31 #[.pointer (some ⟨b, 0, none⟩), spV s, .string v] w fun e w' => e = .returned (.tuple #[]) ∧ ∃ ov', Rdr W0 b sa sn sc la lc L (O ++ [⟨s.letter, v⟩]) P ov' pv w' := by
  obtain ⟨i0, hi0, hz0, hz1, hz2⟩ := info_parts infoOp
  have HBw := Lib.hid h.lt
  have HN0 := Lib.hid (fun k hk => h.o_ne (k := k) hk)
  have HV0 := Lib.hid (fun k (hk : ov.ownBlock = some k) => (h.opts.lt k hk).2)
  have HWa := Lib.hid (h.keep ((Below.refl _ _).alloc (Nat.le_refl _) (.cells #[.int .u8 s.letter, .string s.long, .bool s.value] 42)))
  clear h
  unfold spV
  go_enter Try.func31, Try.ntmps31
  go_upto_region 1 with fail
  have HX := Lib.hid (heap_alloc_new w (.cells #[.int .u8 s.letter, .string s.long, .bool s.value] 42))
  generalize w.alloc (.cells #[.int .u8 s.letter, .string s.long, .bool s.value] 42) = w3 at HX HWa ⊢
  obtain ⟨B1, hB1⟩ : ∃ B1, w.heap.size = B1 := ⟨_, rfl⟩
  have HNx := Lib.hid (show some B1 ≠ ov.ownBlock from fun e => by have := HV0.out B1 e.symm; omega)
  have HNb := Lib.hid (show some b ≠ ov.ownBlock from fun e => HN0.out b e.symm rfl)
  rw [hB1] at HX ⊢
  have HCb := Lib.hid (fun W hW => HWa.out.same (W := W) hW)
  have HCx := Lib.hid (show ∀ W : World, W.heap[B1]? = w3.heap[B1]? → W.cell? ⟨B1, 0, none⟩ = some (.int .u8 s.letter) from fun W hW => by
    rw [cell_of_row _ _ _ _ _ _ (hW.trans HX.out)]; rfl)
  have HLb := Lib.hid HWa.out.lt
  have HLx := Lib.hid (heap_lt HX.out)
  have HLb2 := Lib.hid (show b < (w3.drew.alloc (.cells (opC ⟨s.letter, v⟩).toArray 35)).heap.size from by have := HLb.out; simp; omega)
  have HLx2 := Lib.hid (show B1 < (w3.drew.alloc (.cells (opC ⟨s.letter, v⟩).toArray 35)).heap.size from by have := HLx.out; simp; omega)
  have HW3 := Lib.hid (HWa.out.keep (show Below w3.heap.size w3 (w3.drew.alloc (.cells (opC ⟨s.letter, v⟩).toArray 35)) from ((Below.refl _ _).drew).alloc (Nat.le_refl _) _))
  have HO3 := Lib.hid HW3.out.opts
  have HG3 := Lib.hid HW3.out.low.size
-- TILL 1
  refine B.Till.region (z := 13) (S := fun w' => w'.heap[b]? = w3.heap[b]? ∧ w'.heap[B1]? = w3.heap[B1]?) (by kernel_rfl) ⟨rfl, rfl⟩ (fun hHeld => ?_)
  refine B.Till.take (i := 0) (oi := { dst := some 6, op := Op.move (Operand.tmp 0), type := 52, pos := "opts.go:174", after := #[], guard := none }) (v := .pointer (some ⟨b, 0, none⟩)) rfl (by kernel_rfl) (by kernel_rfl) (by kernel_rfl) (by kernel_rfl) (fun _ _ _ h => h) (Or.inl ⟨by rfl, fun w0 hS0 => ?_⟩) (by assumption) ?_
  · go_simp
  try simp only [Act.put, List.setIfInBounds_toArray, List.set_cons_zero, List.set_cons_succ]
  refine B.Till.take (i := 1) (oi := { dst := some 7, op := Op.move (Operand.tmp 0), type := 52, pos := "opts.go:174", after := #[], guard := none }) (v := .pointer (some ⟨b, 0, none⟩)) rfl (by kernel_rfl) (by kernel_rfl) (by kernel_rfl) (by kernel_rfl) (fun _ _ _ h => h) (Or.inl ⟨by rfl, fun w0 hS0 => ?_⟩) (by assumption) ?_
  · go_simp
  try simp only [Act.put, List.setIfInBounds_toArray, List.set_cons_zero, List.set_cons_succ]
  refine B.Till.take (i := 2) (oi := { dst := some 8, op := Op.nilCheck (Operand.tmp 7), type := 0, pos := "opts.go:174", after := #[{ on := 1, ground := Ground.data }], guard := none }) (v := .pointer (some ⟨b, 0, none⟩)) rfl (by kernel_rfl) (by kernel_rfl) (by kernel_rfl) (by kernel_rfl) (fun _ _ _ h => h) (Or.inl ⟨by rfl, fun w0 hS0 => ?_⟩) (by assumption) ?_
  · go_simp
  try simp only [Act.put, List.setIfInBounds_toArray, List.set_cons_zero, List.set_cons_succ]
  refine B.Till.take (i := 3) (oi := { dst := some 9, op := Op.fieldAddr 44 (Operand.tmp 8) 2, type := 0, pos := "opts.go:174", after := #[{ on := 2, ground := Ground.data }], guard := none }) (v := .pointer (some ⟨b, 2, none⟩)) rfl (by kernel_rfl) (by kernel_rfl) (by kernel_rfl) (by kernel_rfl) (fun _ _ _ h => h) (Or.inl ⟨by rfl, fun w0 hS0 => ?_⟩) (by assumption) ?_
  · go_simp
  try simp only [Act.put, List.setIfInBounds_toArray, List.set_cons_zero, List.set_cons_succ]
  refine B.Till.take (i := 4) (oi := { dst := some 10, op := Op.load 26 (Operand.tmp 9), type := 26, pos := "opts.go:174", after := #[{ on := 3, ground := Ground.data }], guard := none }) (v := ov) rfl (by kernel_rfl) (by kernel_rfl) (by kernel_rfl) (by kernel_rfl) (fun _ _ _ h => h) (Or.inl ⟨by rfl, fun w0 hS0 => ?_⟩) (by assumption) ?_
  · have c2 := (HCb.out _ hS0.1).2.1; go_simp
  try simp only [Act.put, List.setIfInBounds_toArray, List.set_cons_zero, List.set_cons_succ]
  refine B.Till.take (i := 5) (oi := { dst := some 11, op := Op.fieldAddr 42 (Operand.tmp 4) 0, type := 0, pos := "opts.go:174", after := #[], guard := none }) (v := .pointer (some ⟨B1, 0, none⟩)) rfl (by kernel_rfl) (by kernel_rfl) (by kernel_rfl) (by kernel_rfl) (fun _ _ _ h => h) (Or.inl ⟨by rfl, fun w0 hS0 => ?_⟩) (by assumption) ?_
  · go_simp
  try simp only [Act.put, List.setIfInBounds_toArray, List.set_cons_zero, List.set_cons_succ]
  refine B.Till.take (i := 6) (oi := { dst := some 12, op := Op.load 5 (Operand.tmp 11), type := 5, pos := "opts.go:174", after := #[{ on := 5, ground := Ground.data }], guard := none }) (v := .int .u8 s.letter) rfl (by kernel_rfl) (by kernel_rfl) (by kernel_rfl) (by kernel_rfl) (fun _ _ _ h => h) (Or.inl ⟨by rfl, fun w0 hS0 => ?_⟩) (by assumption) ?_
  · have r0 := HCx.out _ hS0.2; go_simp
  try simp only [Act.put, List.setIfInBounds_toArray, List.set_cons_zero, List.set_cons_succ]
  refine B.Till.take (i := 7) (oi := { dst := some 13, op := Op.move (Operand.tmp 2), type := 9, pos := "opts.go:174", after := #[], guard := none }) (v := .string v) rfl (by kernel_rfl) (by kernel_rfl) (by kernel_rfl) (by kernel_rfl) (fun _ _ _ h => h) (Or.inl ⟨by rfl, fun w0 hS0 => ?_⟩) (by assumption) ?_
  · go_simp
  try simp only [Act.put, List.setIfInBounds_toArray, List.set_cons_zero, List.set_cons_succ]
  refine B.Till.take (i := 8) (oi := { dst := some 14, op := Op.build 35 #[(0, Operand.tmp 12), (1, Operand.tmp 13)], type := 35, pos := "opts.go:174", after := #[{ on := 6, ground := Ground.data }, { on := 7, ground := Ground.data }], guard := none }) (v := .agg #[.int .u8 s.letter, .string v]) rfl (by kernel_rfl) (by kernel_rfl) (by kernel_rfl) (by kernel_rfl) (fun _ _ _ h => h) (Or.inl ⟨by rfl, fun w0 hS0 => ?_⟩) (by assumption) ?_
  · go_simp
  try simp only [Act.put, List.setIfInBounds_toArray, List.set_cons_zero, List.set_cons_succ]
  refine B.Till.next (i := 9) (o := { dst := some 15, op := Op.buildSlice 26 1 #[(0, Operand.tmp 14)], type := 26, pos := "opts.go:174", after := #[{ on := 8, ground := Ground.data }], guard := none }) (by kernel_rfl) rfl (fun K hK => ?_)
  go_simp
  refine hK.out _ _ (fun _ => ⟨(heap_alloc_old _ _ HLb.out).trans hHeld.1, (heap_alloc_old _ _ HLx.out).trans hHeld.2⟩) ?_
  clear hK K
  try simp only [Act.put, List.setIfInBounds_toArray, List.set_cons_zero, List.set_cons_succ]
  refine B.Till.next (i := 10) (o := { dst := some 16, op := Op.call { callee := Callee.builtin Builtin.append, args := #[Operand.tmp 10, Operand.tmp 15], argTypes := #[26, 26] }, type := 26, pos := "opts.go:174", after := #[{ on := 4, ground := Ground.data }, { on := 9, ground := Ground.data }], guard := none }) (by kernel_rfl) rfl (fun K hK => ?_)
  refine step_append_lies _ rfl (.tmp 10) (.tmp 15) 26 rfl W0.heap.size 35 i0 _ 2 24 Try.underlying26 hi0 hz0 hz1 hz2 rfl (by decide) ov O.length (cellsC opC O) (by simp [Act.eval]) HO3.out ⟨w3.heap.size, 0, none⟩ 1 1 (opC ⟨s.letter, v⟩) (by simp [Act.eval]) rfl (World.news_of_block (heap_alloc_new _ _)) (opC_one _) (by decide) (by unfold maxLen; omega) (by omega) HG3.out _ rfl ?_
  intro g1 cap1 w4 hown hgrow hat hlt1
  have hS4 : w4.heap[b]? = w3.heap[b]? ∧ w4.heap[B1]? = w3.heap[B1]? := ⟨(hgrow.block _ HLb2.out HNb.out).trans (heap_alloc_old _ _ HLb.out), (hgrow.block _ HLx2.out HNx.out).trans (heap_alloc_old _ _ HLx.out)⟩
  have HW4 := Lib.hid (HW3.out.option (E := [⟨s.letter, v⟩]) hown hgrow)
  clear hown hgrow hat hlt1
  refine hK.out _ _ (fun _ => hS4) ?_
  clear hK K
  try simp only [Act.put, List.setIfInBounds_toArray, List.set_cons_zero, List.set_cons_succ]
  refine B.Till.next (i := 11) (o := { dst := some 17, op := Op.nilCheck (Operand.tmp 6), type := 0, pos := "opts.go:174", after := #[{ on := 0, ground := Ground.data }, { on := 0, ground := Ground.phase }, { on := 1, ground := Ground.phase }, { on := 2, ground := Ground.phase }, { on := 3, ground := Ground.phase }, { on := 4, ground := Ground.phase }, { on := 5, ground := Ground.phase }, { on := 6, ground := Ground.phase }, { on := 7, ground := Ground.phase }, { on := 8, ground := Ground.phase }, { on := 9, ground := Ground.phase }, { on := 10, ground := Ground.phase }], guard := none }) (by kernel_rfl) rfl (fun K hK => ?_)
  go_simp
  refine hK.out _ _ (fun _ => hS4) ?_
  clear hK K
  try simp only [Act.put, List.setIfInBounds_toArray, List.set_cons_zero, List.set_cons_succ]
  refine B.Till.next (i := 12) (o := { dst := some 18, op := Op.fieldAddr 44 (Operand.tmp 17) 2, type := 0, pos := "opts.go:174", after := #[{ on := 11, ground := Ground.data }, { on := 0, ground := Ground.phase }, { on := 1, ground := Ground.phase }, { on := 2, ground := Ground.phase }, { on := 3, ground := Ground.phase }, { on := 4, ground := Ground.phase }, { on := 5, ground := Ground.phase }, { on := 6, ground := Ground.phase }, { on := 7, ground := Ground.phase }, { on := 8, ground := Ground.phase }, { on := 9, ground := Ground.phase }, { on := 10, ground := Ground.phase }], guard := none }) (by kernel_rfl) rfl (fun K hK => ?_)
  go_simp
  refine hK.out _ _ (fun _ => hS4) ?_
  clear hK K
  try simp only [Act.put, List.setIfInBounds_toArray, List.set_cons_zero, List.set_cons_succ]
  refine B.Till.next (i := 13) (o := { dst := none, op := Op.store 26 (Operand.tmp 18) (Operand.tmp 16), type := 0, pos := "opts.go:174", after := #[{ on := 12, ground := Ground.data }, { on := 10, ground := Ground.data }, { on := 10, ground := Ground.chain }, { on := 0, ground := Ground.phase }, { on := 1, ground := Ground.phase }, { on := 2, ground := Ground.phase }, { on := 3, ground := Ground.phase }, { on := 4, ground := Ground.phase }, { on := 5, ground := Ground.phase }, { on := 6, ground := Ground.phase }, { on := 7, ground := Ground.phase }, { on := 8, ground := Ground.phase }, { on := 9, ground := Ground.phase }, { on := 10, ground := Ground.phase }], guard := none }) (by kernel_rfl) rfl (fun K hK => ?_)
  obtain ⟨_, c2, _, ff⟩ := HCb.out _ hS4.1
  have f2 := ff 2
  clear ff
  go_simp
  refine hK.out _ _ (fun q => absurd rfl q) ?_
  clear hK K
  try simp only [Act.put, List.setIfInBounds_toArray, List.set_cons_zero, List.set_cons_succ]
  refine B.Till.done (by kernel_rfl) ?_
-- TILL 1 END
  go_wp2_with fail
  go_end0
  exact ⟨rfl, _, HW4.out⟩

set_option maxRecDepth 100000 in
set_option maxHeartbeats 4000000 in
theorem end_any (x : ByteArray) (h : Rdr W0 b sa sn sc la lc L O P ov pv w) (hP : P.length + L.length ≤ 100000) :
    Calls Try.prog 21 #[.pointer (some ⟨b, 0, none⟩), .string x] w fun e w' => Took W0 b sa sn sc (some (O, P ++ L, [])) e w' := by
  obtain ⟨it, hit, ht0, ht1, ht2⟩ := info_parts infoTxt
  have HCb := Lib.hid (fun W hW => h.same (W := W) hW)
  have HB := Lib.hid h.lt
  have HN := Lib.hid (fun k hk => h.p_ne (k := k) hk)
  have HK2 := Lib.hid (h.keep (show Below w.heap.size w w.drew from (Below.refl _ _).drew))
  have HO2 := Lib.hid HK2.out.opnd
  have HG2 := Lib.hid HK2.out.low.size
  have HL2 := Lib.hid (HK2.out.left.keep HK2.out.low)
  have HNl := Lib.hid h.lcap.2.2
  clear h
  go_enter Try.func21, Try.ntmps21
  go_upto_region 1 with fail
-- TILL 2
  refine B.Till.region (z := 12) (S := fun w' => w'.heap[b]? = w.heap[b]?) (by kernel_rfl) rfl (fun hHeld => ?_)
  refine B.Till.take (i := 0) (oi := { dst := some 5, op := Op.move (Operand.tmp 0), type := 52, pos := "opts.go:90", after := #[], guard := none }) (v := .pointer (some ⟨b, 0, none⟩)) rfl (by kernel_rfl) (by kernel_rfl) (by kernel_rfl) (by kernel_rfl) (fun _ _ _ h => h) (Or.inl ⟨by rfl, fun w0 hS0 => ?_⟩) (by assumption) ?_
  · go_simp
  try simp only [Act.put, List.setIfInBounds_toArray, List.set_cons_zero, List.set_cons_succ]
  refine B.Till.take (i := 1) (oi := { dst := some 6, op := Op.move (Operand.tmp 0), type := 52, pos := "opts.go:90", after := #[], guard := none }) (v := .pointer (some ⟨b, 0, none⟩)) rfl (by kernel_rfl) (by kernel_rfl) (by kernel_rfl) (by kernel_rfl) (fun _ _ _ h => h) (Or.inl ⟨by rfl, fun w0 hS0 => ?_⟩) (by assumption) ?_
  · go_simp
  try simp only [Act.put, List.setIfInBounds_toArray, List.set_cons_zero, List.set_cons_succ]
  refine B.Till.take (i := 2) (oi := { dst := some 7, op := Op.nilCheck (Operand.tmp 6), type := 0, pos := "opts.go:90", after := #[{ on := 1, ground := Ground.data }], guard := none }) (v := .pointer (some ⟨b, 0, none⟩)) rfl (by kernel_rfl) (by kernel_rfl) (by kernel_rfl) (by kernel_rfl) (fun _ _ _ h => h) (Or.inl ⟨by rfl, fun w0 hS0 => ?_⟩) (by assumption) ?_
  · go_simp
  try simp only [Act.put, List.setIfInBounds_toArray, List.set_cons_zero, List.set_cons_succ]
  refine B.Till.take (i := 3) (oi := { dst := some 8, op := Op.fieldAddr 44 (Operand.tmp 7) 3, type := 0, pos := "opts.go:90", after := #[{ on := 2, ground := Ground.data }], guard := none }) (v := .pointer (some ⟨b, 3, none⟩)) rfl (by kernel_rfl) (by kernel_rfl) (by kernel_rfl) (by kernel_rfl) (fun _ _ _ h => h) (Or.inl ⟨by rfl, fun w0 hS0 => ?_⟩) (by assumption) ?_
  · go_simp
  try simp only [Act.put, List.setIfInBounds_toArray, List.set_cons_zero, List.set_cons_succ]
  refine B.Till.take (i := 4) (oi := { dst := some 9, op := Op.load 23 (Operand.tmp 8), type := 23, pos := "opts.go:90", after := #[{ on := 3, ground := Ground.data }], guard := none }) (v := pv) rfl (by kernel_rfl) (by kernel_rfl) (by kernel_rfl) (by kernel_rfl) (fun _ _ _ h => h) (Or.inl ⟨by rfl, fun w0 hS0 => ?_⟩) (by assumption) ?_
  · have c3 := (HCb.out _ hS0).2.2.1; go_simp
  try simp only [Act.put, List.setIfInBounds_toArray, List.set_cons_zero, List.set_cons_succ]
  refine B.Till.take (i := 5) (oi := { dst := some 10, op := Op.move (Operand.tmp 0), type := 52, pos := "opts.go:90", after := #[], guard := none }) (v := .pointer (some ⟨b, 0, none⟩)) rfl (by kernel_rfl) (by kernel_rfl) (by kernel_rfl) (by kernel_rfl) (fun _ _ _ h => h) (Or.inl ⟨by rfl, fun w0 hS0 => ?_⟩) (by assumption) ?_
  · go_simp
  try simp only [Act.put, List.setIfInBounds_toArray, List.set_cons_zero, List.set_cons_succ]
  refine B.Till.take (i := 6) (oi := { dst := some 11, op := Op.nilCheck (Operand.tmp 10), type := 0, pos := "opts.go:90", after := #[{ on := 5, ground := Ground.data }], guard := none }) (v := .pointer (some ⟨b, 0, none⟩)) rfl (by kernel_rfl) (by kernel_rfl) (by kernel_rfl) (by kernel_rfl) (fun _ _ _ h => h) (Or.inl ⟨by rfl, fun w0 hS0 => ?_⟩) (by assumption) ?_
  · go_simp
  try simp only [Act.put, List.setIfInBounds_toArray, List.set_cons_zero, List.set_cons_succ]
  refine B.Till.take (i := 7) (oi := { dst := some 12, op := Op.fieldAddr 44 (Operand.tmp 11) 1, type := 0, pos := "opts.go:90", after := #[{ on := 6, ground := Ground.data }], guard := none }) (v := .pointer (some ⟨b, 1, none⟩)) rfl (by kernel_rfl) (by kernel_rfl) (by kernel_rfl) (by kernel_rfl) (fun _ _ _ h => h) (Or.inl ⟨by rfl, fun w0 hS0 => ?_⟩) (by assumption) ?_
  · go_simp
  try simp only [Act.put, List.setIfInBounds_toArray, List.set_cons_zero, List.set_cons_succ]
  refine B.Till.take (i := 8) (oi := { dst := some 13, op := Op.load 23 (Operand.tmp 12), type := 23, pos := "opts.go:90", after := #[{ on := 7, ground := Ground.data }], guard := none }) (v := .slice la L.length lc) rfl (by kernel_rfl) (by kernel_rfl) (by kernel_rfl) (by kernel_rfl) (fun _ _ _ h => h) (Or.inl ⟨by rfl, fun w0 hS0 => ?_⟩) (by assumption) ?_
  · have c1 := (HCb.out _ hS0).1; go_simp
  try simp only [Act.put, List.setIfInBounds_toArray, List.set_cons_zero, List.set_cons_succ]
  refine B.Till.next (i := 9) (o := { dst := some 14, op := Op.call { callee := Callee.builtin Builtin.append, args := #[Operand.tmp 9, Operand.tmp 13], argTypes := #[23, 23] }, type := 23, pos := "opts.go:90", after := #[{ on := 4, ground := Ground.data }, { on := 8, ground := Ground.data }], guard := none }) (by kernel_rfl) rfl (fun K hK => ?_)
  refine step_append_rowL rfl (.tmp 9) (.tmp 13) 23 rfl W0.heap.size 9 it (.string ⟨#[]⟩) 16 Try.underlying23 hit ht0 ht1 ht2 rfl (by decide) txC_len txC_one pv P.length (strs P) (by simp [Act.eval]) HO2.out la lc L (by simp [Act.eval]) HL2.out HNl.out (by unfold maxLen; omega) (by omega) HG2.out ?_
  intro ao cp w5 hown hgrow
  rw [txC_strs] at hown
  have hb5 : w5.heap[b]? = w.heap[b]? := hgrow.block b HB.out (fun e => HN.out _ e.symm rfl)
  have HW5 := Lib.hid (HK2.out.operand (E := L) hown hgrow)
  clear hown hgrow
  refine hK.out _ _ (fun _ => hb5) ?_
  clear hK K
  try simp only [Act.put, List.setIfInBounds_toArray, List.set_cons_zero, List.set_cons_succ]
  refine B.Till.next (i := 10) (o := { dst := some 15, op := Op.nilCheck (Operand.tmp 5), type := 0, pos := "opts.go:90", after := #[{ on := 0, ground := Ground.data }, { on := 0, ground := Ground.phase }, { on := 1, ground := Ground.phase }, { on := 2, ground := Ground.phase }, { on := 3, ground := Ground.phase }, { on := 4, ground := Ground.phase }, { on := 5, ground := Ground.phase }, { on := 6, ground := Ground.phase }, { on := 7, ground := Ground.phase }, { on := 8, ground := Ground.phase }, { on := 9, ground := Ground.phase }], guard := none }) (by kernel_rfl) rfl (fun K hK => ?_)
  go_simp
  refine hK.out _ _ (fun _ => hb5) ?_
  clear hK K
  try simp only [Act.put, List.setIfInBounds_toArray, List.set_cons_zero, List.set_cons_succ]
  refine B.Till.next (i := 11) (o := { dst := some 16, op := Op.fieldAddr 44 (Operand.tmp 15) 3, type := 0, pos := "opts.go:90", after := #[{ on := 10, ground := Ground.data }, { on := 0, ground := Ground.phase }, { on := 1, ground := Ground.phase }, { on := 2, ground := Ground.phase }, { on := 3, ground := Ground.phase }, { on := 4, ground := Ground.phase }, { on := 5, ground := Ground.phase }, { on := 6, ground := Ground.phase }, { on := 7, ground := Ground.phase }, { on := 8, ground := Ground.phase }, { on := 9, ground := Ground.phase }], guard := none }) (by kernel_rfl) rfl (fun K hK => ?_)
  go_simp
  refine hK.out _ _ (fun _ => hb5) ?_
  clear hK K
  try simp only [Act.put, List.setIfInBounds_toArray, List.set_cons_zero, List.set_cons_succ]
  refine B.Till.next (i := 12) (o := { dst := none, op := Op.store 23 (Operand.tmp 16) (Operand.tmp 14), type := 0, pos := "opts.go:90", after := #[{ on := 11, ground := Ground.data }, { on := 9, ground := Ground.data }, { on := 9, ground := Ground.chain }, { on := 0, ground := Ground.phase }, { on := 1, ground := Ground.phase }, { on := 2, ground := Ground.phase }, { on := 3, ground := Ground.phase }, { on := 4, ground := Ground.phase }, { on := 5, ground := Ground.phase }, { on := 6, ground := Ground.phase }, { on := 7, ground := Ground.phase }, { on := 8, ground := Ground.phase }, { on := 9, ground := Ground.phase }], guard := none }) (by kernel_rfl) rfl (fun K hK => ?_)
  obtain ⟨_, _, c3, ff⟩ := HCb.out _ hb5
  have f3 := ff 3
  clear ff
  go_simp
  refine hK.out _ _ (fun q => absurd rfl q) ?_
  clear hK K
  try simp only [Act.put, List.setIfInBounds_toArray, List.set_cons_zero, List.set_cons_succ]
  refine B.Till.done (by kernel_rfl) ?_
-- TILL 2 END
  generalize w5.setCell ⟨b, 3, none⟩ (.slice ao (P.length + L.length) cp) = w6 at HW5 ⊢
  clear c3 f3 hb5 hHeld
  have c1 := HW5.out.cell (j := 1) rfl
  have f1 := HW5.out.free 1
  have HX := Lib.hid (HW5.out.take (la' := none) (lc' := 0) (L' := []) (RowL.nil _ _) ⟨by decide, by decide, fun _ => rfl⟩)
  go_wp2_with fail
  go_ret
  exact Took.yes HX.out

end
end Go.Proofs.Ytboolblccahadaa.A
