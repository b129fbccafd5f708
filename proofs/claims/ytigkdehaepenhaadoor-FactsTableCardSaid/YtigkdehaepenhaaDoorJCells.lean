/-
  What the reference's cells returns: a device's row as six texts. Conditions: numbers of 64 bits, a text of at most 1000000 bytes.
-/
import Derived.Test.YtigkdehaepenhaaDoorJTabM
import Derived.Test.YtigkdehaepenhaaDoorJMem
import Derived.Test.YtigkdehaepenhaaDoorTill
import Derived.Test.YtigkdehaepenhaaDoorRefDec
import Derived.Test.YtigkdehaepenhaaDoorJTexts
set_option linter.unusedSimpArgs false
set_option linter.unusedVariables false
namespace Go.Proofs.YtigkdehaepenhaaDoor.J
open Go.Proofs.YtigkdehaepenhaaDoor.B
open Go.RowKit

set_option maxRecDepth 100000 in
set_option maxHeartbeats 16000000 in
theorem refCells_any (r : Rw) (w : World) (hr : OkR r) :
    Calls Tryd.prog 13 #[.agg (rwC r).toArray] w fun e w' => e = .returned (.agg (r6 (textsJ r)).toArray) ∧ Below w.heap.size w w' := by
  have HDec := Lib.hid (fun (x : Int) (hx : I64 x) (W : World) (hb : Below w.heap.size w W) => (N.refDec_any x W hx.1 hx.2).mono (R' := fun e w' => e = .returned (.string (txt (Lib.itoa x))) ∧ Below W.heap.size W w') (by rintro e w' ⟨rfl, k, rfl⟩; exact ⟨rfl, below_drewNb (Below.refl _ _)⟩))
  change Hid (∀ (x : Int), I64 x → ∀ (W : World), Below w.heap.size w W → Calls Tryd.prog 24 #[.int .i64 x] W fun e w' => e = .returned (.string (txt (Lib.itoa x))) ∧ Below W.heap.size W w') at HDec
  have HO := Lib.hid hr
  have h5 := itoa_len hr.pct
  have HR := Lib.hid (show r6 (textsJ r) = [.string (txt (Lib.itoa r.dev)), .string (txt (Lib.itoa r.all)), .string (txt (Lib.itoa r.used)), .string (txt (Lib.itoa r.left)), .string (txt (Lib.itoa r.pct) ++ ⟨#[37]⟩), .string r.at_] from rfl)
  clear hr
  generalize r6 (textsJ r) = RR at HR ⊢
  have HS5 := Lib.hid (show (txt (Lib.itoa r.pct)).size ≤ 21 from by rw [txt_size]; exact h5)
  clear h5
  obtain ⟨T0, hT0⟩ : ∃ T, txt (Lib.itoa r.dev) = T := ⟨_, rfl⟩
  obtain ⟨T1, hT1⟩ : ∃ T, txt (Lib.itoa r.all) = T := ⟨_, rfl⟩
  obtain ⟨T2, hT2⟩ : ∃ T, txt (Lib.itoa r.used) = T := ⟨_, rfl⟩
  obtain ⟨T3, hT3⟩ : ∃ T, txt (Lib.itoa r.left) = T := ⟨_, rfl⟩
  obtain ⟨T4, hT4⟩ : ∃ T, txt (Lib.itoa r.pct) = T := ⟨_, rfl⟩
  have HD0 := Lib.hid (HDec.out r.dev HO.out.dev)
  have HD1 := Lib.hid (HDec.out r.all HO.out.all)
  have HD2 := Lib.hid (HDec.out r.used HO.out.used)
  have HD3 := Lib.hid (HDec.out r.left HO.out.left)
  have HD4 := Lib.hid (HDec.out r.pct HO.out.pct)
  rw [hT0] at HD0
  rw [hT1] at HD1
  rw [hT2] at HD2
  rw [hT3] at HD3
  rw [hT4] at HD4 HS5
  rw [hT0, hT1, hT2, hT3, hT4] at HR
  clear hT0 hT1 hT2 hT3 hT4 HDec
  unfold rwC
  go_enter Tryd.func13, Tryd.ntmps13
  go_upto_region 1 with fail
  obtain ⟨B0, hB0⟩ : ∃ B0, w.heap.size = B0 := ⟨_, rfl⟩
  obtain ⟨w1, hw1⟩ : ∃ w1, (w.alloc (.cells #[.int .i64 r.dev, .int .i64 r.all, .int .i64 r.used, .int .i64 r.left, .int .i64 r.pct, .string r.at_] 25)).alloc (.cells #[.string ⟨#[]⟩, .string ⟨#[]⟩, .string ⟨#[]⟩, .string ⟨#[]⟩, .string ⟨#[]⟩, .string ⟨#[]⟩] 40) = w1 := ⟨_, rfl⟩
  have HB1 := Lib.hid (show Below w.heap.size w w1 from by rw [← hw1]; exact below_a2 _ _ _)
  have HX := Lib.hid (show w1.heap[B0]? = some (.cells #[.int .i64 r.dev, .int .i64 r.all, .int .i64 r.used, .int .i64 r.left, .int .i64 r.pct, .string r.at_] 25 (0, 0)) ∧ w1.heap[B0 + 1]? = some (.cells #[.string ⟨#[]⟩, .string ⟨#[]⟩, .string ⟨#[]⟩, .string ⟨#[]⟩, .string ⟨#[]⟩, .string ⟨#[]⟩] 40 (0, 0)) from by rw [← hw1, ← hB0]; exact two_new w _ _)
  have HLe := Lib.hid (show w.heap.size ≤ B0 + 1 from by omega)
  rw [hw1, hB0]
  clear hw1 hB0
  generalize B0 + 1 = B1 at HX HLe ⊢
-- TILL 1
  refine B.Till.region (z := 19) (S := fun w' => Below w1.heap.size w1 w') (by kernel_rfl) ((Below.refl _ _).drew) (fun hHeld => ?_)
  refine B.Till.take (i := 0) (oi := { dst := some 3, op := Op.fieldAddr 25 (Operand.tmp 1) 0, type := 0, pos := "ref.go:93", after := #[], guard := none }) (v := .pointer (some ⟨B0, 0, none⟩)) rfl (by kernel_rfl) (by kernel_rfl) (by kernel_rfl) (by kernel_rfl) (fun _ _ _ h => h) (Or.inl ⟨by rfl, fun w0 hS0 => ?_⟩) (by assumption) ?_
  · go_simp
  try simp only [Act.put, List.setIfInBounds_toArray, List.set_cons_zero, List.set_cons_succ]
  refine B.Till.take (i := 1) (oi := { dst := some 4, op := Op.load 3 (Operand.tmp 3), type := 3, pos := "ref.go:93", after := #[{ on := 0, ground := Ground.data }], guard := none }) (v := .int .i64 r.dev) rfl (by kernel_rfl) (by kernel_rfl) (by kernel_rfl) (by kernel_rfl) (fun _ _ _ h => h) (Or.inl ⟨by rfl, fun w0 hS0 => ?_⟩) (by assumption) ?_
  · have b8 : w0.cell? ⟨B0, 0, none⟩ = some (.int .i64 r.dev) := by rw [cell_of_row _ _ _ _ _ _ ((hS0.block _ (heap_lt HX.out.1)).trans HX.out.1)]; rfl
    go_simp
  try simp only [Act.put, List.setIfInBounds_toArray, List.set_cons_zero, List.set_cons_succ]
  refine B.Till.take (i := 3) (oi := { dst := some 6, op := Op.fieldAddr 25 (Operand.tmp 1) 1, type := 0, pos := "ref.go:93", after := #[], guard := none }) (v := .pointer (some ⟨B0, 1, none⟩)) rfl (by kernel_rfl) (by kernel_rfl) (by kernel_rfl) (by kernel_rfl) (fun _ _ _ h => h) (Or.inl ⟨by rfl, fun w0 hS0 => ?_⟩) (by assumption) ?_
  · go_simp
  try simp only [Act.put, List.setIfInBounds_toArray, List.set_cons_zero, List.set_cons_succ]
  refine B.Till.take (i := 4) (oi := { dst := some 7, op := Op.load 2 (Operand.tmp 6), type := 2, pos := "ref.go:93", after := #[{ on := 3, ground := Ground.data }], guard := none }) (v := .int .i64 r.all) rfl (by kernel_rfl) (by kernel_rfl) (by kernel_rfl) (by kernel_rfl) (fun _ _ _ h => h) (Or.inl ⟨by rfl, fun w0 hS0 => ?_⟩) (by assumption) ?_
  · have b8 : w0.cell? ⟨B0, 1, none⟩ = some (.int .i64 r.all) := by rw [cell_of_row _ _ _ _ _ _ ((hS0.block _ (heap_lt HX.out.1)).trans HX.out.1)]; rfl
    go_simp
  try simp only [Act.put, List.setIfInBounds_toArray, List.set_cons_zero, List.set_cons_succ]
  refine B.Till.take (i := 6) (oi := { dst := some 9, op := Op.fieldAddr 25 (Operand.tmp 1) 2, type := 0, pos := "ref.go:93", after := #[], guard := none }) (v := .pointer (some ⟨B0, 2, none⟩)) rfl (by kernel_rfl) (by kernel_rfl) (by kernel_rfl) (by kernel_rfl) (fun _ _ _ h => h) (Or.inl ⟨by rfl, fun w0 hS0 => ?_⟩) (by assumption) ?_
  · go_simp
  try simp only [Act.put, List.setIfInBounds_toArray, List.set_cons_zero, List.set_cons_succ]
  refine B.Till.take (i := 7) (oi := { dst := some 10, op := Op.load 2 (Operand.tmp 9), type := 2, pos := "ref.go:93", after := #[{ on := 6, ground := Ground.data }], guard := none }) (v := .int .i64 r.used) rfl (by kernel_rfl) (by kernel_rfl) (by kernel_rfl) (by kernel_rfl) (fun _ _ _ h => h) (Or.inl ⟨by rfl, fun w0 hS0 => ?_⟩) (by assumption) ?_
  · have b8 : w0.cell? ⟨B0, 2, none⟩ = some (.int .i64 r.used) := by rw [cell_of_row _ _ _ _ _ _ ((hS0.block _ (heap_lt HX.out.1)).trans HX.out.1)]; rfl
    go_simp
  try simp only [Act.put, List.setIfInBounds_toArray, List.set_cons_zero, List.set_cons_succ]
  refine B.Till.take (i := 9) (oi := { dst := some 12, op := Op.fieldAddr 25 (Operand.tmp 1) 3, type := 0, pos := "ref.go:93", after := #[], guard := none }) (v := .pointer (some ⟨B0, 3, none⟩)) rfl (by kernel_rfl) (by kernel_rfl) (by kernel_rfl) (by kernel_rfl) (fun _ _ _ h => h) (Or.inl ⟨by rfl, fun w0 hS0 => ?_⟩) (by assumption) ?_
  · go_simp
  try simp only [Act.put, List.setIfInBounds_toArray, List.set_cons_zero, List.set_cons_succ]
  refine B.Till.take (i := 10) (oi := { dst := some 13, op := Op.load 2 (Operand.tmp 12), type := 2, pos := "ref.go:93", after := #[{ on := 9, ground := Ground.data }], guard := none }) (v := .int .i64 r.left) rfl (by kernel_rfl) (by kernel_rfl) (by kernel_rfl) (by kernel_rfl) (fun _ _ _ h => h) (Or.inl ⟨by rfl, fun w0 hS0 => ?_⟩) (by assumption) ?_
  · have b8 : w0.cell? ⟨B0, 3, none⟩ = some (.int .i64 r.left) := by rw [cell_of_row _ _ _ _ _ _ ((hS0.block _ (heap_lt HX.out.1)).trans HX.out.1)]; rfl
    go_simp
  try simp only [Act.put, List.setIfInBounds_toArray, List.set_cons_zero, List.set_cons_succ]
  refine B.Till.take (i := 12) (oi := { dst := some 15, op := Op.fieldAddr 25 (Operand.tmp 1) 4, type := 0, pos := "ref.go:93", after := #[], guard := none }) (v := .pointer (some ⟨B0, 4, none⟩)) rfl (by kernel_rfl) (by kernel_rfl) (by kernel_rfl) (by kernel_rfl) (fun _ _ _ h => h) (Or.inl ⟨by rfl, fun w0 hS0 => ?_⟩) (by assumption) ?_
  · go_simp
  try simp only [Act.put, List.setIfInBounds_toArray, List.set_cons_zero, List.set_cons_succ]
  refine B.Till.take (i := 13) (oi := { dst := some 16, op := Op.load 2 (Operand.tmp 15), type := 2, pos := "ref.go:93", after := #[{ on := 12, ground := Ground.data }], guard := none }) (v := .int .i64 r.pct) rfl (by kernel_rfl) (by kernel_rfl) (by kernel_rfl) (by kernel_rfl) (fun _ _ _ h => h) (Or.inl ⟨by rfl, fun w0 hS0 => ?_⟩) (by assumption) ?_
  · have b8 : w0.cell? ⟨B0, 4, none⟩ = some (.int .i64 r.pct) := by rw [cell_of_row _ _ _ _ _ _ ((hS0.block _ (heap_lt HX.out.1)).trans HX.out.1)]; rfl
    go_simp
  try simp only [Act.put, List.setIfInBounds_toArray, List.set_cons_zero, List.set_cons_succ]
  refine B.Till.take (i := 16) (oi := { dst := some 19, op := Op.fieldAddr 25 (Operand.tmp 1) 5, type := 0, pos := "ref.go:93", after := #[], guard := none }) (v := .pointer (some ⟨B0, 5, none⟩)) rfl (by kernel_rfl) (by kernel_rfl) (by kernel_rfl) (by kernel_rfl) (fun _ _ _ h => h) (Or.inl ⟨by rfl, fun w0 hS0 => ?_⟩) (by assumption) ?_
  · go_simp
  try simp only [Act.put, List.setIfInBounds_toArray, List.set_cons_zero, List.set_cons_succ]
  refine B.Till.take (i := 17) (oi := { dst := some 20, op := Op.load 9 (Operand.tmp 19), type := 9, pos := "ref.go:93", after := #[{ on := 16, ground := Ground.data }], guard := none }) (v := .string r.at_) rfl (by kernel_rfl) (by kernel_rfl) (by kernel_rfl) (by kernel_rfl) (fun _ _ _ h => h) (Or.inl ⟨by rfl, fun w0 hS0 => ?_⟩) (by assumption) ?_
  · have b8 : w0.cell? ⟨B0, 5, none⟩ = some (.string r.at_) := by rw [cell_of_row _ _ _ _ _ _ ((hS0.block _ (heap_lt HX.out.1)).trans HX.out.1)]; rfl
    go_simp
  try simp only [Act.put, List.setIfInBounds_toArray, List.set_cons_zero, List.set_cons_succ]
  refine B.Till.next (i := 2) (o := { dst := some 5, op := Op.call { callee := Callee.value (Operand.func 24), args := #[Operand.tmp 4], argTypes := #[2] }, type := 9, pos := "ref.go:93", after := #[{ on := 1, ground := Ground.data }], guard := none }) (by kernel_rfl) rfl (fun K hK => ?_)
  go_simp
  refine (HD0.out _ (below_two HB1.out hHeld)).mono ?_
  rintro e v0 ⟨rfl, hb⟩
  have hH0 : Below w1.heap.size w1 v0 := hHeld.trans (hb.mono hHeld.size)
  clear hb
  go_wp2_with fail
  refine hK.out _ _ (fun _ => hH0) ?_
  clear hK K
  try simp only [Act.put, List.setIfInBounds_toArray, List.set_cons_zero, List.set_cons_succ]
  refine B.Till.next (i := 5) (o := { dst := some 8, op := Op.call { callee := Callee.value (Operand.func 24), args := #[Operand.tmp 7], argTypes := #[2] }, type := 9, pos := "ref.go:93", after := #[{ on := 4, ground := Ground.data }, { on := 2, ground := Ground.chain }], guard := none }) (by kernel_rfl) rfl (fun K hK => ?_)
  go_simp
  refine (HD1.out _ (below_two HB1.out hH0)).mono ?_
  rintro e v1 ⟨rfl, hb⟩
  have hH1 : Below w1.heap.size w1 v1 := hH0.trans (hb.mono hH0.size)
  clear hb
  go_wp2_with fail
  refine hK.out _ _ (fun _ => hH1) ?_
  clear hK K
  try simp only [Act.put, List.setIfInBounds_toArray, List.set_cons_zero, List.set_cons_succ]
  refine B.Till.next (i := 8) (o := { dst := some 11, op := Op.call { callee := Callee.value (Operand.func 24), args := #[Operand.tmp 10], argTypes := #[2] }, type := 9, pos := "ref.go:93", after := #[{ on := 7, ground := Ground.data }, { on := 5, ground := Ground.chain }], guard := none }) (by kernel_rfl) rfl (fun K hK => ?_)
  go_simp
  refine (HD2.out _ (below_two HB1.out hH1)).mono ?_
  rintro e v2 ⟨rfl, hb⟩
  have hH2 : Below w1.heap.size w1 v2 := hH1.trans (hb.mono hH1.size)
  clear hb
  go_wp2_with fail
  refine hK.out _ _ (fun _ => hH2) ?_
  clear hK K
  try simp only [Act.put, List.setIfInBounds_toArray, List.set_cons_zero, List.set_cons_succ]
  refine B.Till.next (i := 11) (o := { dst := some 14, op := Op.call { callee := Callee.value (Operand.func 24), args := #[Operand.tmp 13], argTypes := #[2] }, type := 9, pos := "ref.go:93", after := #[{ on := 10, ground := Ground.data }, { on := 8, ground := Ground.chain }], guard := none }) (by kernel_rfl) rfl (fun K hK => ?_)
  go_simp
  refine (HD3.out _ (below_two HB1.out hH2)).mono ?_
  rintro e v3 ⟨rfl, hb⟩
  have hH3 : Below w1.heap.size w1 v3 := hH2.trans (hb.mono hH2.size)
  clear hb
  go_wp2_with fail
  refine hK.out _ _ (fun _ => hH3) ?_
  clear hK K
  try simp only [Act.put, List.setIfInBounds_toArray, List.set_cons_zero, List.set_cons_succ]
  refine B.Till.next (i := 14) (o := { dst := some 17, op := Op.call { callee := Callee.value (Operand.func 24), args := #[Operand.tmp 16], argTypes := #[2] }, type := 9, pos := "ref.go:93", after := #[{ on := 13, ground := Ground.data }, { on := 11, ground := Ground.chain }], guard := none }) (by kernel_rfl) rfl (fun K hK => ?_)
  go_simp
  refine (HD4.out _ (below_two HB1.out hH3)).mono ?_
  rintro e v4 ⟨rfl, hb⟩
  have hH4 : Below w1.heap.size w1 v4 := hH3.trans (hb.mono hH3.size)
  clear hb
  go_wp2_with fail
  refine hK.out _ _ (fun _ => hH4) ?_
  clear hK K
  try simp only [Act.put, List.setIfInBounds_toArray, List.set_cons_zero, List.set_cons_succ]
  refine B.Till.take (i := 15) (oi := { dst := some 18, op := Op.binOp BinOp.add 9 (Operand.tmp 17) (Operand.const (Value.string { data := #[37] })) 9, type := 9, pos := "ref.go:93", after := #[{ on := 14, ground := Ground.data }], guard := none }) (v := .string (T4 ++ ⟨#[37]⟩)) rfl (by kernel_rfl) (by kernel_rfl) (by kernel_rfl) (by kernel_rfl) (fun _ _ _ h => h) (Or.inl ⟨by rfl, fun w0 hS0 => ?_⟩) (by assumption) ?_
  · have hs5 := HS5.out; have ha := run_string_add_sum (P := Tryd.prog) (w := w0) T4 (⟨#[37]⟩ : ByteArray) (by show T4.size + 1 ≤ _; omega); go_simp
  try simp only [Act.put, List.setIfInBounds_toArray, List.set_cons_zero, List.set_cons_succ]
  obtain ⟨A4, hA4⟩ : ∃ A, T4 ++ ⟨#[37]⟩ = A := ⟨_, rfl⟩
  rw [hA4] at HR
  try simp only [hA4]
  clear hA4
  refine B.Till.take (i := 18) (oi := { dst := some 21, op := Op.build 40 #[(0, Operand.tmp 5), (1, Operand.tmp 8), (2, Operand.tmp 11), (3, Operand.tmp 14), (4, Operand.tmp 18), (5, Operand.tmp 20)], type := 40, pos := "ref.go:93", after := #[{ on := 2, ground := Ground.data }, { on := 5, ground := Ground.data }, { on := 8, ground := Ground.data }, { on := 11, ground := Ground.data }, { on := 15, ground := Ground.data }, { on := 17, ground := Ground.data }], guard := none }) (v := .agg #[.string T0, .string T1, .string T2, .string T3, .string A4, .string r.at_]) rfl (by kernel_rfl) (by kernel_rfl) (by kernel_rfl) (by kernel_rfl) (fun _ _ _ h => h) (Or.inl ⟨by rfl, fun w0 hS0 => ?_⟩) (by assumption) ?_
  · go_simp
  try simp only [Act.put, List.setIfInBounds_toArray, List.set_cons_zero, List.set_cons_succ]
  refine B.Till.next (i := 19) (o := { dst := none, op := Op.store 40 (Operand.tmp 2) (Operand.tmp 21), type := 0, pos := "ref.go:93", after := #[{ on := 18, ground := Ground.data }, { on := 14, ground := Ground.chain }, { on := 0, ground := Ground.phase }, { on := 1, ground := Ground.phase }, { on := 2, ground := Ground.phase }, { on := 3, ground := Ground.phase }, { on := 4, ground := Ground.phase }, { on := 5, ground := Ground.phase }, { on := 6, ground := Ground.phase }, { on := 7, ground := Ground.phase }, { on := 8, ground := Ground.phase }, { on := 9, ground := Ground.phase }, { on := 10, ground := Ground.phase }, { on := 11, ground := Ground.phase }, { on := 12, ground := Ground.phase }, { on := 13, ground := Ground.phase }, { on := 14, ground := Ground.phase }, { on := 15, ground := Ground.phase }, { on := 16, ground := Ground.phase }, { on := 17, ground := Ground.phase }, { on := 18, ground := Ground.phase }], guard := none }) (by kernel_rfl) rfl (fun K hK => ?_)
  have HXe := Lib.hid ((hH4.block _ (heap_lt HX.out.2)).trans HX.out.2)
  have HBe := Lib.hid (below_two HB1.out hH4)
  refine step_store_own rfl 40 (.tmp 2) (.tmp 21) rfl B1 #[.string T0, .string T1, .string T2, .string T3, .string A4, .string r.at_] rfl rfl 40 _ HXe.out sizeR6 rfl (r6_one _ _ _ _ _ _) ?_
  refine hK.out _ _ (fun q => absurd rfl q) ?_
  clear hK K
  try simp only [Act.put, List.setIfInBounds_toArray, List.set_cons_zero, List.set_cons_succ]
  refine B.Till.done (by kernel_rfl) ?_
  go_wp2_with fail
-- TILL 1 END
  refine bodyPost_ret (v := .agg #[.string T0, .string T1, .string T2, .string T3, .string A4, .string r.at_]) ?_ rfl ⟨by rw [HR.out], below_setR HBe.out HLe.out _⟩
  exact results_cell_row Tryd.results13 _ _ B1 _ _ _ _ rfl (setRow_heap _ _ _ _ _ _ HXe.out) Tryd.underlying40 rfl sizeR6
end Go.Proofs.YtigkdehaepenhaaDoor.J
