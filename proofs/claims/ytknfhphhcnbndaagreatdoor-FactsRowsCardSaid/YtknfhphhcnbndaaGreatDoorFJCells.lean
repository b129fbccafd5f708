/-
  What facts' texts returns: a device's row as six texts. Conditions: numbers of 64 bits, a text of at most 1000000 bytes; the table of powers of ten lies.
  What the reference's cells returns: a device's row as six texts. Conditions: numbers of 64 bits, a text of at most 1000000 bytes.
-/
import Derived.Test.YtknfhphhcnbndaaGreatDoorFJRowP
import Derived.Test.YtknfhphhcnbndaaGreatDoorFJMem
import Derived.Test.YtknfhphhcnbndaaGreatDoorFFormat
set_option linter.unusedSimpArgs false
set_option linter.unusedVariables false
namespace Go.Proofs.YtknfhphhcnbndaaGreatDoor.J
open List renaming setIfInBounds_toArray → lt, set_cons_zero → l0, set_cons_succ → ls
open Go.Proofs.YtknfhphhcnbndaaGreatDoor.B
open Go.RowKit

theorem sizeR6 : (Tryz.prog.info? 110).map (·.size) = some 6 := by kernel_rfl
theorem r6_one (a b c d e f : ByteArray) : (#[.string a, .string b, .string c, .string d, .string e, .string f] : Array Value).all (·.oneCell') = true := by simp [Value.oneCell']

set_option maxRecDepth 100000 in
set_option maxHeartbeats 16000000 in
theorem texts_any (r : Rw) (w : World) (ht : N.Tab w) (hr : OkR r) :
    Calls Tryz.prog 99 #[.agg (rwC r).toArray] w fun e w' => e = .returned (.agg (r6 (textsJ r)).toArray) ∧ Below w.heap.size w w' := by
  have HDec := Lib.hid (fun (x : Int) (hx : I64 x) (W : World) (hb : Below w.heap.size w W) => N.dec_any x W hx.1 hx.2 (ht.keep hb))
  change Hid (∀ (x : Int), I64 x → ∀ (W : World), Below w.heap.size w W → Calls Tryz.prog 151 #[.int .i64 x] W fun e w' => e = .returned (.string (txt (Lib.itoa x))) ∧ Below W.heap.size W w') at HDec
  have HO := Lib.hid hr
  have h5 := itoa_len hr.pct
  have HR := Lib.hid (show r6 (textsJ r) = [.string (txt (Lib.itoa r.dev)), .string (txt (Lib.itoa r.all)), .string (txt (Lib.itoa r.used)), .string (txt (Lib.itoa r.left)), .string (txt (Lib.itoa r.pct) ++ ⟨#[37]⟩), .string r.at_] from rfl)
  clear ht hr
  generalize r6 (textsJ r) = RR at HR ⊢
  have HS5 := Lib.hid (show (txt (Lib.itoa r.pct)).size ≤ 21 from by rw [txt_size]; exact h5)
  clear h5
  obtain ⟨T0, hT0⟩ : ∃ T, txt (Lib.itoa r.dev) = T := ⟨_, rfl⟩
  obtain ⟨T1, hT1⟩ : ∃ T, txt (Lib.itoa r.all) = T := ⟨_, rfl⟩
  obtain ⟨T2, hT2⟩ : ∃ T, txt (Lib.itoa r.used) = T := ⟨_, rfl⟩
  obtain ⟨T3, hT3⟩ : ∃ T, txt (Lib.itoa r.left) = T := ⟨_, rfl⟩
  obtain ⟨T4, hT4⟩ : ∃ T, txt (Lib.itoa r.pct) = T := ⟨_, rfl⟩
  have HD0 := Lib.hid (HDec.out r.dev HO.out.dev)
  have HD1 := Lib.hid (HDec.out r.all HO.out.all)
  have HD2 := Lib.hid (HDec.out r.used HO.out.used)
  have HD3 := Lib.hid (HDec.out r.left HO.out.left)
  have HD4 := Lib.hid (HDec.out r.pct HO.out.pct)
  rw [hT0] at HD0
  rw [hT1] at HD1
  rw [hT2] at HD2
  rw [hT3] at HD3
  rw [hT4] at HD4 HS5
  rw [hT0, hT1, hT2, hT3, hT4] at HR
  clear hT0 hT1 hT2 hT3 hT4 HDec
  unfold rwC
  go_enter Tryz.func99, Tryz.ntmps99
  go_upto_region 1 with fail
  obtain ⟨B0, hB0⟩ : ∃ B0, w.heap.size = B0 := ⟨_, rfl⟩
  obtain ⟨w1, hw1⟩ : ∃ w1, (w.alloc (.cells #[.int .i64 r.dev, .int .i64 r.all, .int .i64 r.used, .int .i64 r.left, .int .i64 r.pct, .string r.at_] 38)).alloc (.cells #[.string ⟨#[]⟩, .string ⟨#[]⟩, .string ⟨#[]⟩, .string ⟨#[]⟩, .string ⟨#[]⟩, .string ⟨#[]⟩] 110) = w1 := ⟨_, rfl⟩
  have HB1 := Lib.hid (show Below w.heap.size w w1 from by rw [← hw1]; exact below_a2 _ _ _)
  have HX := Lib.hid (show w1.heap[B0]? = some (.cells #[.int .i64 r.dev, .int .i64 r.all, .int .i64 r.used, .int .i64 r.left, .int .i64 r.pct, .string r.at_] 38 (0, 0)) ∧ w1.heap[B0 + 1]? = some (.cells #[.string ⟨#[]⟩, .string ⟨#[]⟩, .string ⟨#[]⟩, .string ⟨#[]⟩, .string ⟨#[]⟩, .string ⟨#[]⟩] 110 (0, 0)) from by rw [← hw1, ← hB0]; exact two_new w _ _)
  have HLe := Lib.hid (show w.heap.size ≤ B0 + 1 from by omega)
  rw [hw1, hB0]
  clear hw1 hB0
  generalize B0 + 1 = B1 at HX HLe ⊢
-- TILL 1
  refine B.Till.region (z := 19) (S := fun w' => Below w1.heap.size w1 w') (by kernel_rfl) ((Below.refl _ _).drew) (fun hHeld => ?_)
  refine B.Till.take (i := 0) (oi := ⟨some 3, .fieldAddr 38 (.tmp 1) 0, 0, "facts.go:222", #[], none⟩) (v := .pointer (some ⟨B0, 0, none⟩)) rfl (by kernel_rfl) (by kernel_rfl) (by kernel_rfl) (by kernel_rfl) (fun _ _ _ h => h) (Or.inl ⟨by rfl, fun w0 hS0 => ?_⟩) (by assumption) ?_
  · go_simp
  try simp only [Act.put, lt, l0, ls]
  refine B.Till.take (i := 1) (oi := ⟨some 4, .load 3 (.tmp 3), 3, "facts.go:222", #[⟨0, .data⟩], none⟩) (v := .int .i64 r.dev) rfl (by kernel_rfl) (by kernel_rfl) (by kernel_rfl) (by kernel_rfl) (fun _ _ _ h => h) (Or.inl ⟨by rfl, fun w0 hS0 => ?_⟩) (by assumption) ?_
  · have b8 : w0.cell? ⟨B0, 0, none⟩ = some (.int .i64 r.dev) := by rw [cell_of_row _ _ _ _ _ _ ((hS0.block _ (heap_lt HX.out.1)).trans HX.out.1)]; rfl
    go_simp
  try simp only [Act.put, lt, l0, ls]
  refine B.Till.take (i := 3) (oi := ⟨some 6, .fieldAddr 38 (.tmp 1) 1, 0, "facts.go:222", #[], none⟩) (v := .pointer (some ⟨B0, 1, none⟩)) rfl (by kernel_rfl) (by kernel_rfl) (by kernel_rfl) (by kernel_rfl) (fun _ _ _ h => h) (Or.inl ⟨by rfl, fun w0 hS0 => ?_⟩) (by assumption) ?_
  · go_simp
  try simp only [Act.put, lt, l0, ls]
  refine B.Till.take (i := 4) (oi := ⟨some 7, .load 2 (.tmp 6), 2, "facts.go:222", #[⟨3, .data⟩], none⟩) (v := .int .i64 r.all) rfl (by kernel_rfl) (by kernel_rfl) (by kernel_rfl) (by kernel_rfl) (fun _ _ _ h => h) (Or.inl ⟨by rfl, fun w0 hS0 => ?_⟩) (by assumption) ?_
  · have b8 : w0.cell? ⟨B0, 1, none⟩ = some (.int .i64 r.all) := by rw [cell_of_row _ _ _ _ _ _ ((hS0.block _ (heap_lt HX.out.1)).trans HX.out.1)]; rfl
    go_simp
  try simp only [Act.put, lt, l0, ls]
  refine B.Till.take (i := 6) (oi := ⟨some 9, .fieldAddr 38 (.tmp 1) 2, 0, "facts.go:222", #[], none⟩) (v := .pointer (some ⟨B0, 2, none⟩)) rfl (by kernel_rfl) (by kernel_rfl) (by kernel_rfl) (by kernel_rfl) (fun _ _ _ h => h) (Or.inl ⟨by rfl, fun w0 hS0 => ?_⟩) (by assumption) ?_
  · go_simp
  try simp only [Act.put, lt, l0, ls]
  refine B.Till.take (i := 7) (oi := ⟨some 10, .load 2 (.tmp 9), 2, "facts.go:222", #[⟨6, .data⟩], none⟩) (v := .int .i64 r.used) rfl (by kernel_rfl) (by kernel_rfl) (by kernel_rfl) (by kernel_rfl) (fun _ _ _ h => h) (Or.inl ⟨by rfl, fun w0 hS0 => ?_⟩) (by assumption) ?_
  · have b8 : w0.cell? ⟨B0, 2, none⟩ = some (.int .i64 r.used) := by rw [cell_of_row _ _ _ _ _ _ ((hS0.block _ (heap_lt HX.out.1)).trans HX.out.1)]; rfl
    go_simp
  try simp only [Act.put, lt, l0, ls]
  refine B.Till.take (i := 9) (oi := ⟨some 12, .fieldAddr 38 (.tmp 1) 3, 0, "facts.go:222", #[], none⟩) (v := .pointer (some ⟨B0, 3, none⟩)) rfl (by kernel_rfl) (by kernel_rfl) (by kernel_rfl) (by kernel_rfl) (fun _ _ _ h => h) (Or.inl ⟨by rfl, fun w0 hS0 => ?_⟩) (by assumption) ?_
  · go_simp
  try simp only [Act.put, lt, l0, ls]
  refine B.Till.take (i := 10) (oi := ⟨some 13, .load 2 (.tmp 12), 2, "facts.go:222", #[⟨9, .data⟩], none⟩) (v := .int .i64 r.left) rfl (by kernel_rfl) (by kernel_rfl) (by kernel_rfl) (by kernel_rfl) (fun _ _ _ h => h) (Or.inl ⟨by rfl, fun w0 hS0 => ?_⟩) (by assumption) ?_
  · have b8 : w0.cell? ⟨B0, 3, none⟩ = some (.int .i64 r.left) := by rw [cell_of_row _ _ _ _ _ _ ((hS0.block _ (heap_lt HX.out.1)).trans HX.out.1)]; rfl
    go_simp
  try simp only [Act.put, lt, l0, ls]
  refine B.Till.take (i := 12) (oi := ⟨some 15, .fieldAddr 38 (.tmp 1) 4, 0, "facts.go:222", #[], none⟩) (v := .pointer (some ⟨B0, 4, none⟩)) rfl (by kernel_rfl) (by kernel_rfl) (by kernel_rfl) (by kernel_rfl) (fun _ _ _ h => h) (Or.inl ⟨by rfl, fun w0 hS0 => ?_⟩) (by assumption) ?_
  · go_simp
  try simp only [Act.put, lt, l0, ls]
  refine B.Till.take (i := 13) (oi := ⟨some 16, .load 2 (.tmp 15), 2, "facts.go:222", #[⟨12, .data⟩], none⟩) (v := .int .i64 r.pct) rfl (by kernel_rfl) (by kernel_rfl) (by kernel_rfl) (by kernel_rfl) (fun _ _ _ h => h) (Or.inl ⟨by rfl, fun w0 hS0 => ?_⟩) (by assumption) ?_
  · have b8 : w0.cell? ⟨B0, 4, none⟩ = some (.int .i64 r.pct) := by rw [cell_of_row _ _ _ _ _ _ ((hS0.block _ (heap_lt HX.out.1)).trans HX.out.1)]; rfl
    go_simp
  try simp only [Act.put, lt, l0, ls]
  refine B.Till.take (i := 16) (oi := ⟨some 19, .fieldAddr 38 (.tmp 1) 5, 0, "facts.go:222", #[], none⟩) (v := .pointer (some ⟨B0, 5, none⟩)) rfl (by kernel_rfl) (by kernel_rfl) (by kernel_rfl) (by kernel_rfl) (fun _ _ _ h => h) (Or.inl ⟨by rfl, fun w0 hS0 => ?_⟩) (by assumption) ?_
  · go_simp
  try simp only [Act.put, lt, l0, ls]
  refine B.Till.take (i := 17) (oi := ⟨some 20, .load 9 (.tmp 19), 9, "facts.go:222", #[⟨16, .data⟩], none⟩) (v := .string r.at_) rfl (by kernel_rfl) (by kernel_rfl) (by kernel_rfl) (by kernel_rfl) (fun _ _ _ h => h) (Or.inl ⟨by rfl, fun w0 hS0 => ?_⟩) (by assumption) ?_
  · have b8 : w0.cell? ⟨B0, 5, none⟩ = some (.string r.at_) := by rw [cell_of_row _ _ _ _ _ _ ((hS0.block _ (heap_lt HX.out.1)).trans HX.out.1)]; rfl
    go_simp
  try simp only [Act.put, lt, l0, ls]
  refine B.Till.next (i := 2) (o := ⟨some 5, .call ⟨.value (.func 151), #[.tmp 4], #[2]⟩, 9, "facts.go:223", #[⟨1, .data⟩], none⟩) (by kernel_rfl) rfl (fun K hK => ?_)
  go_simp
  refine (HD0.out _ (below_two HB1.out hHeld)).mono ?_
  rintro e v0 ⟨rfl, hb⟩
  have hH0 : Below w1.heap.size w1 v0 := hHeld.trans (hb.mono hHeld.size)
  clear hb
  go_wp2_with fail
  refine hK.out _ _ (fun _ => hH0) ?_
  clear hK K
  try simp only [Act.put, lt, l0, ls]
  refine B.Till.next (i := 5) (o := ⟨some 8, .call ⟨.value (.func 151), #[.tmp 7], #[2]⟩, 9, "facts.go:224", #[⟨4, .data⟩, ⟨2, .chain⟩], none⟩) (by kernel_rfl) rfl (fun K hK => ?_)
  go_simp
  refine (HD1.out _ (below_two HB1.out hH0)).mono ?_
  rintro e v1 ⟨rfl, hb⟩
  have hH1 : Below w1.heap.size w1 v1 := hH0.trans (hb.mono hH0.size)
  clear hb
  go_wp2_with fail
  refine hK.out _ _ (fun _ => hH1) ?_
  clear hK K
  try simp only [Act.put, lt, l0, ls]
  refine B.Till.next (i := 8) (o := ⟨some 11, .call ⟨.value (.func 151), #[.tmp 10], #[2]⟩, 9, "facts.go:225", #[⟨7, .data⟩, ⟨5, .chain⟩], none⟩) (by kernel_rfl) rfl (fun K hK => ?_)
  go_simp
  refine (HD2.out _ (below_two HB1.out hH1)).mono ?_
  rintro e v2 ⟨rfl, hb⟩
  have hH2 : Below w1.heap.size w1 v2 := hH1.trans (hb.mono hH1.size)
  clear hb
  go_wp2_with fail
  refine hK.out _ _ (fun _ => hH2) ?_
  clear hK K
  try simp only [Act.put, lt, l0, ls]
  refine B.Till.next (i := 11) (o := ⟨some 14, .call ⟨.value (.func 151), #[.tmp 13], #[2]⟩, 9, "facts.go:226", #[⟨10, .data⟩, ⟨8, .chain⟩], none⟩) (by kernel_rfl) rfl (fun K hK => ?_)
  go_simp
  refine (HD3.out _ (below_two HB1.out hH2)).mono ?_
  rintro e v3 ⟨rfl, hb⟩
  have hH3 : Below w1.heap.size w1 v3 := hH2.trans (hb.mono hH2.size)
  clear hb
  go_wp2_with fail
  refine hK.out _ _ (fun _ => hH3) ?_
  clear hK K
  try simp only [Act.put, lt, l0, ls]
  refine B.Till.next (i := 14) (o := ⟨some 17, .call ⟨.value (.func 151), #[.tmp 16], #[2]⟩, 9, "facts.go:227", #[⟨13, .data⟩, ⟨11, .chain⟩], none⟩) (by kernel_rfl) rfl (fun K hK => ?_)
  go_simp
  refine (HD4.out _ (below_two HB1.out hH3)).mono ?_
  rintro e v4 ⟨rfl, hb⟩
  have hH4 : Below w1.heap.size w1 v4 := hH3.trans (hb.mono hH3.size)
  clear hb
  go_wp2_with fail
  refine hK.out _ _ (fun _ => hH4) ?_
  clear hK K
  try simp only [Act.put, lt, l0, ls]
  refine B.Till.take (i := 15) (oi := ⟨some 18, .binOp .add 9 (.tmp 17) (.const (.string { data := #[37] })) 9, 9, "facts.go:222", #[⟨14, .data⟩], none⟩) (v := .string (T4 ++ ⟨#[37]⟩)) rfl (by kernel_rfl) (by kernel_rfl) (by kernel_rfl) (by kernel_rfl) (fun _ _ _ h => h) (Or.inl ⟨by rfl, fun w0 hS0 => ?_⟩) (by assumption) ?_
  · have hs5 := HS5.out; have ha := run_string_add_sum (P := Tryz.prog) (w := w0) T4 (⟨#[37]⟩ : ByteArray) (by show T4.size + 1 ≤ _; omega); go_simp
  try simp only [Act.put, lt, l0, ls]
  obtain ⟨A4, hA4⟩ : ∃ A, T4 ++ ⟨#[37]⟩ = A := ⟨_, rfl⟩
  rw [hA4] at HR
  try simp only [hA4]
  clear hA4
  refine B.Till.take (i := 18) (oi := ⟨some 21, .build 110 #[(0, .tmp 5), (1, .tmp 8), (2, .tmp 11), (3, .tmp 14), (4, .tmp 18), (5, .tmp 20)], 110, "facts.go:222", #[⟨2, .data⟩, ⟨5, .data⟩, ⟨8, .data⟩, ⟨11, .data⟩, ⟨15, .data⟩, ⟨17, .data⟩], none⟩) (v := .agg #[.string T0, .string T1, .string T2, .string T3, .string A4, .string r.at_]) rfl (by kernel_rfl) (by kernel_rfl) (by kernel_rfl) (by kernel_rfl) (fun _ _ _ h => h) (Or.inl ⟨by rfl, fun w0 hS0 => ?_⟩) (by assumption) ?_
  · go_simp
  try simp only [Act.put, lt, l0, ls]
  refine B.Till.next (i := 19) (o := ⟨none, .store 110 (.tmp 2) (.tmp 21), 0, "facts.go:222", #[⟨18, .data⟩, ⟨14, .chain⟩, ⟨0, .phase⟩, ⟨1, .phase⟩, ⟨2, .phase⟩, ⟨3, .phase⟩, ⟨4, .phase⟩, ⟨5, .phase⟩, ⟨6, .phase⟩, ⟨7, .phase⟩, ⟨8, .phase⟩, ⟨9, .phase⟩, ⟨10, .phase⟩, ⟨11, .phase⟩, ⟨12, .phase⟩, ⟨13, .phase⟩, ⟨14, .phase⟩, ⟨15, .phase⟩, ⟨16, .phase⟩, ⟨17, .phase⟩, ⟨18, .phase⟩], none⟩) (by kernel_rfl) rfl (fun K hK => ?_)
  have HXe := Lib.hid ((hH4.block _ (heap_lt HX.out.2)).trans HX.out.2)
  have HBe := Lib.hid (below_two HB1.out hH4)
  refine step_store_own rfl 110 (.tmp 2) (.tmp 21) rfl B1 #[.string T0, .string T1, .string T2, .string T3, .string A4, .string r.at_] rfl rfl 110 _ HXe.out sizeR6 rfl (r6_one _ _ _ _ _ _) ?_
  refine hK.out _ _ (fun q => absurd rfl q) ?_
  clear hK K
  try simp only [Act.put, lt, l0, ls]
  refine B.Till.done (by kernel_rfl) ?_
  go_wp2_with fail
-- TILL 1 END
  refine bodyPost_ret (v := .agg #[.string T0, .string T1, .string T2, .string T3, .string A4, .string r.at_]) ?_ rfl ⟨by rw [HR.out], below_setR HBe.out HLe.out _⟩
  exact results_cell_row Tryz.results99 _ _ B1 _ _ _ _ rfl (setRow_heap _ _ _ _ _ _ HXe.out) Tryz.underlying110 rfl sizeR6
end Go.Proofs.YtknfhphhcnbndaaGreatDoor.J

namespace Go.Proofs.YtknfhphhcnbndaaGreatDoor.J
open List renaming setIfInBounds_toArray → lt, set_cons_zero → l0, set_cons_succ → ls
open Go.Proofs.YtknfhphhcnbndaaGreatDoor.B
open Go.RowKit

set_option maxRecDepth 100000 in
set_option maxHeartbeats 16000000 in
theorem refCells_any (r : Rw) (w : World) (hr : OkR r) :
    Calls Tryz.prog 51 #[.agg (rwC r).toArray] w fun e w' => e = .returned (.agg (r6 (textsJ r)).toArray) ∧ Below w.heap.size w w' := by
  have HDec := Lib.hid (fun (x : Int) (hx : I64 x) (W : World) (hb : Below w.heap.size w W) => (N.refDec_any x W hx.1 hx.2).mono (R' := fun e w' => e = .returned (.string (txt (Lib.itoa x))) ∧ Below W.heap.size W w') (by rintro e w' ⟨rfl, k, rfl⟩; exact ⟨rfl, below_drewNb (Below.refl _ _)⟩))
  change Hid (∀ (x : Int), I64 x → ∀ (W : World), Below w.heap.size w W → Calls Tryz.prog 103 #[.int .i64 x] W fun e w' => e = .returned (.string (txt (Lib.itoa x))) ∧ Below W.heap.size W w') at HDec
  have HO := Lib.hid hr
  have h5 := itoa_len hr.pct
  have HR := Lib.hid (show r6 (textsJ r) = [.string (txt (Lib.itoa r.dev)), .string (txt (Lib.itoa r.all)), .string (txt (Lib.itoa r.used)), .string (txt (Lib.itoa r.left)), .string (txt (Lib.itoa r.pct) ++ ⟨#[37]⟩), .string r.at_] from rfl)
  clear hr
  generalize r6 (textsJ r) = RR at HR ⊢
  have HS5 := Lib.hid (show (txt (Lib.itoa r.pct)).size ≤ 21 from by rw [txt_size]; exact h5)
  clear h5
  obtain ⟨T0, hT0⟩ : ∃ T, txt (Lib.itoa r.dev) = T := ⟨_, rfl⟩
  obtain ⟨T1, hT1⟩ : ∃ T, txt (Lib.itoa r.all) = T := ⟨_, rfl⟩
  obtain ⟨T2, hT2⟩ : ∃ T, txt (Lib.itoa r.used) = T := ⟨_, rfl⟩
  obtain ⟨T3, hT3⟩ : ∃ T, txt (Lib.itoa r.left) = T := ⟨_, rfl⟩
  obtain ⟨T4, hT4⟩ : ∃ T, txt (Lib.itoa r.pct) = T := ⟨_, rfl⟩
  have HD0 := Lib.hid (HDec.out r.dev HO.out.dev)
  have HD1 := Lib.hid (HDec.out r.all HO.out.all)
  have HD2 := Lib.hid (HDec.out r.used HO.out.used)
  have HD3 := Lib.hid (HDec.out r.left HO.out.left)
  have HD4 := Lib.hid (HDec.out r.pct HO.out.pct)
  rw [hT0] at HD0
  rw [hT1] at HD1
  rw [hT2] at HD2
  rw [hT3] at HD3
  rw [hT4] at HD4 HS5
  rw [hT0, hT1, hT2, hT3, hT4] at HR
  clear hT0 hT1 hT2 hT3 hT4 HDec
  unfold rwC
  go_enter Tryz.func51, Tryz.ntmps51
  go_upto_region 1 with fail
  obtain ⟨B0, hB0⟩ : ∃ B0, w.heap.size = B0 := ⟨_, rfl⟩
  obtain ⟨w1, hw1⟩ : ∃ w1, (w.alloc (.cells #[.int .i64 r.dev, .int .i64 r.all, .int .i64 r.used, .int .i64 r.left, .int .i64 r.pct, .string r.at_] 38)).alloc (.cells #[.string ⟨#[]⟩, .string ⟨#[]⟩, .string ⟨#[]⟩, .string ⟨#[]⟩, .string ⟨#[]⟩, .string ⟨#[]⟩] 110) = w1 := ⟨_, rfl⟩
  have HB1 := Lib.hid (show Below w.heap.size w w1 from by rw [← hw1]; exact below_a2 _ _ _)
  have HX := Lib.hid (show w1.heap[B0]? = some (.cells #[.int .i64 r.dev, .int .i64 r.all, .int .i64 r.used, .int .i64 r.left, .int .i64 r.pct, .string r.at_] 38 (0, 0)) ∧ w1.heap[B0 + 1]? = some (.cells #[.string ⟨#[]⟩, .string ⟨#[]⟩, .string ⟨#[]⟩, .string ⟨#[]⟩, .string ⟨#[]⟩, .string ⟨#[]⟩] 110 (0, 0)) from by rw [← hw1, ← hB0]; exact two_new w _ _)
  have HLe := Lib.hid (show w.heap.size ≤ B0 + 1 from by omega)
  rw [hw1, hB0]
  clear hw1 hB0
  generalize B0 + 1 = B1 at HX HLe ⊢
-- TILL 1
  refine B.Till.region (z := 19) (S := fun w' => Below w1.heap.size w1 w') (by kernel_rfl) ((Below.refl _ _).drew) (fun hHeld => ?_)
  refine B.Till.take (i := 0) (oi := ⟨some 3, .fieldAddr 38 (.tmp 1) 0, 0, "ref.go:93", #[], none⟩) (v := .pointer (some ⟨B0, 0, none⟩)) rfl (by kernel_rfl) (by kernel_rfl) (by kernel_rfl) (by kernel_rfl) (fun _ _ _ h => h) (Or.inl ⟨by rfl, fun w0 hS0 => ?_⟩) (by assumption) ?_
  · go_simp
  try simp only [Act.put, lt, l0, ls]
  refine B.Till.take (i := 1) (oi := ⟨some 4, .load 3 (.tmp 3), 3, "ref.go:93", #[⟨0, .data⟩], none⟩) (v := .int .i64 r.dev) rfl (by kernel_rfl) (by kernel_rfl) (by kernel_rfl) (by kernel_rfl) (fun _ _ _ h => h) (Or.inl ⟨by rfl, fun w0 hS0 => ?_⟩) (by assumption) ?_
  · have b8 : w0.cell? ⟨B0, 0, none⟩ = some (.int .i64 r.dev) := by rw [cell_of_row _ _ _ _ _ _ ((hS0.block _ (heap_lt HX.out.1)).trans HX.out.1)]; rfl
    go_simp
  try simp only [Act.put, lt, l0, ls]
  refine B.Till.take (i := 3) (oi := ⟨some 6, .fieldAddr 38 (.tmp 1) 1, 0, "ref.go:93", #[], none⟩) (v := .pointer (some ⟨B0, 1, none⟩)) rfl (by kernel_rfl) (by kernel_rfl) (by kernel_rfl) (by kernel_rfl) (fun _ _ _ h => h) (Or.inl ⟨by rfl, fun w0 hS0 => ?_⟩) (by assumption) ?_
  · go_simp
  try simp only [Act.put, lt, l0, ls]
  refine B.Till.take (i := 4) (oi := ⟨some 7, .load 2 (.tmp 6), 2, "ref.go:93", #[⟨3, .data⟩], none⟩) (v := .int .i64 r.all) rfl (by kernel_rfl) (by kernel_rfl) (by kernel_rfl) (by kernel_rfl) (fun _ _ _ h => h) (Or.inl ⟨by rfl, fun w0 hS0 => ?_⟩) (by assumption) ?_
  · have b8 : w0.cell? ⟨B0, 1, none⟩ = some (.int .i64 r.all) := by rw [cell_of_row _ _ _ _ _ _ ((hS0.block _ (heap_lt HX.out.1)).trans HX.out.1)]; rfl
    go_simp
  try simp only [Act.put, lt, l0, ls]
  refine B.Till.take (i := 6) (oi := ⟨some 9, .fieldAddr 38 (.tmp 1) 2, 0, "ref.go:93", #[], none⟩) (v := .pointer (some ⟨B0, 2, none⟩)) rfl (by kernel_rfl) (by kernel_rfl) (by kernel_rfl) (by kernel_rfl) (fun _ _ _ h => h) (Or.inl ⟨by rfl, fun w0 hS0 => ?_⟩) (by assumption) ?_
  · go_simp
  try simp only [Act.put, lt, l0, ls]
  refine B.Till.take (i := 7) (oi := ⟨some 10, .load 2 (.tmp 9), 2, "ref.go:93", #[⟨6, .data⟩], none⟩) (v := .int .i64 r.used) rfl (by kernel_rfl) (by kernel_rfl) (by kernel_rfl) (by kernel_rfl) (fun _ _ _ h => h) (Or.inl ⟨by rfl, fun w0 hS0 => ?_⟩) (by assumption) ?_
  · have b8 : w0.cell? ⟨B0, 2, none⟩ = some (.int .i64 r.used) := by rw [cell_of_row _ _ _ _ _ _ ((hS0.block _ (heap_lt HX.out.1)).trans HX.out.1)]; rfl
    go_simp
  try simp only [Act.put, lt, l0, ls]
  refine B.Till.take (i := 9) (oi := ⟨some 12, .fieldAddr 38 (.tmp 1) 3, 0, "ref.go:93", #[], none⟩) (v := .pointer (some ⟨B0, 3, none⟩)) rfl (by kernel_rfl) (by kernel_rfl) (by kernel_rfl) (by kernel_rfl) (fun _ _ _ h => h) (Or.inl ⟨by rfl, fun w0 hS0 => ?_⟩) (by assumption) ?_
  · go_simp
  try simp only [Act.put, lt, l0, ls]
  refine B.Till.take (i := 10) (oi := ⟨some 13, .load 2 (.tmp 12), 2, "ref.go:93", #[⟨9, .data⟩], none⟩) (v := .int .i64 r.left) rfl (by kernel_rfl) (by kernel_rfl) (by kernel_rfl) (by kernel_rfl) (fun _ _ _ h => h) (Or.inl ⟨by rfl, fun w0 hS0 => ?_⟩) (by assumption) ?_
  · have b8 : w0.cell? ⟨B0, 3, none⟩ = some (.int .i64 r.left) := by rw [cell_of_row _ _ _ _ _ _ ((hS0.block _ (heap_lt HX.out.1)).trans HX.out.1)]; rfl
    go_simp
  try simp only [Act.put, lt, l0, ls]
  refine B.Till.take (i := 12) (oi := ⟨some 15, .fieldAddr 38 (.tmp 1) 4, 0, "ref.go:93", #[], none⟩) (v := .pointer (some ⟨B0, 4, none⟩)) rfl (by kernel_rfl) (by kernel_rfl) (by kernel_rfl) (by kernel_rfl) (fun _ _ _ h => h) (Or.inl ⟨by rfl, fun w0 hS0 => ?_⟩) (by assumption) ?_
  · go_simp
  try simp only [Act.put, lt, l0, ls]
  refine B.Till.take (i := 13) (oi := ⟨some 16, .load 2 (.tmp 15), 2, "ref.go:93", #[⟨12, .data⟩], none⟩) (v := .int .i64 r.pct) rfl (by kernel_rfl) (by kernel_rfl) (by kernel_rfl) (by kernel_rfl) (fun _ _ _ h => h) (Or.inl ⟨by rfl, fun w0 hS0 => ?_⟩) (by assumption) ?_
  · have b8 : w0.cell? ⟨B0, 4, none⟩ = some (.int .i64 r.pct) := by rw [cell_of_row _ _ _ _ _ _ ((hS0.block _ (heap_lt HX.out.1)).trans HX.out.1)]; rfl
    go_simp
  try simp only [Act.put, lt, l0, ls]
  refine B.Till.take (i := 16) (oi := ⟨some 19, .fieldAddr 38 (.tmp 1) 5, 0, "ref.go:93", #[], none⟩) (v := .pointer (some ⟨B0, 5, none⟩)) rfl (by kernel_rfl) (by kernel_rfl) (by kernel_rfl) (by kernel_rfl) (fun _ _ _ h => h) (Or.inl ⟨by rfl, fun w0 hS0 => ?_⟩) (by assumption) ?_
  · go_simp
  try simp only [Act.put, lt, l0, ls]
  refine B.Till.take (i := 17) (oi := ⟨some 20, .load 9 (.tmp 19), 9, "ref.go:93", #[⟨16, .data⟩], none⟩) (v := .string r.at_) rfl (by kernel_rfl) (by kernel_rfl) (by kernel_rfl) (by kernel_rfl) (fun _ _ _ h => h) (Or.inl ⟨by rfl, fun w0 hS0 => ?_⟩) (by assumption) ?_
  · have b8 : w0.cell? ⟨B0, 5, none⟩ = some (.string r.at_) := by rw [cell_of_row _ _ _ _ _ _ ((hS0.block _ (heap_lt HX.out.1)).trans HX.out.1)]; rfl
    go_simp
  try simp only [Act.put, lt, l0, ls]
  refine B.Till.next (i := 2) (o := ⟨some 5, .call ⟨.value (.func 103), #[.tmp 4], #[2]⟩, 9, "ref.go:93", #[⟨1, .data⟩], none⟩) (by kernel_rfl) rfl (fun K hK => ?_)
  go_simp
  refine (HD0.out _ (below_two HB1.out hHeld)).mono ?_
  rintro e v0 ⟨rfl, hb⟩
  have hH0 : Below w1.heap.size w1 v0 := hHeld.trans (hb.mono hHeld.size)
  clear hb
  go_wp2_with fail
  refine hK.out _ _ (fun _ => hH0) ?_
  clear hK K
  try simp only [Act.put, lt, l0, ls]
  refine B.Till.next (i := 5) (o := ⟨some 8, .call ⟨.value (.func 103), #[.tmp 7], #[2]⟩, 9, "ref.go:93", #[⟨4, .data⟩, ⟨2, .chain⟩], none⟩) (by kernel_rfl) rfl (fun K hK => ?_)
  go_simp
  refine (HD1.out _ (below_two HB1.out hH0)).mono ?_
  rintro e v1 ⟨rfl, hb⟩
  have hH1 : Below w1.heap.size w1 v1 := hH0.trans (hb.mono hH0.size)
  clear hb
  go_wp2_with fail
  refine hK.out _ _ (fun _ => hH1) ?_
  clear hK K
  try simp only [Act.put, lt, l0, ls]
  refine B.Till.next (i := 8) (o := ⟨some 11, .call ⟨.value (.func 103), #[.tmp 10], #[2]⟩, 9, "ref.go:93", #[⟨7, .data⟩, ⟨5, .chain⟩], none⟩) (by kernel_rfl) rfl (fun K hK => ?_)
  go_simp
  refine (HD2.out _ (below_two HB1.out hH1)).mono ?_
  rintro e v2 ⟨rfl, hb⟩
  have hH2 : Below w1.heap.size w1 v2 := hH1.trans (hb.mono hH1.size)
  clear hb
  go_wp2_with fail
  refine hK.out _ _ (fun _ => hH2) ?_
  clear hK K
  try simp only [Act.put, lt, l0, ls]
  refine B.Till.next (i := 11) (o := ⟨some 14, .call ⟨.value (.func 103), #[.tmp 13], #[2]⟩, 9, "ref.go:93", #[⟨10, .data⟩, ⟨8, .chain⟩], none⟩) (by kernel_rfl) rfl (fun K hK => ?_)
  go_simp
  refine (HD3.out _ (below_two HB1.out hH2)).mono ?_
  rintro e v3 ⟨rfl, hb⟩
  have hH3 : Below w1.heap.size w1 v3 := hH2.trans (hb.mono hH2.size)
  clear hb
  go_wp2_with fail
  refine hK.out _ _ (fun _ => hH3) ?_
  clear hK K
  try simp only [Act.put, lt, l0, ls]
  refine B.Till.next (i := 14) (o := ⟨some 17, .call ⟨.value (.func 103), #[.tmp 16], #[2]⟩, 9, "ref.go:93", #[⟨13, .data⟩, ⟨11, .chain⟩], none⟩) (by kernel_rfl) rfl (fun K hK => ?_)
  go_simp
  refine (HD4.out _ (below_two HB1.out hH3)).mono ?_
  rintro e v4 ⟨rfl, hb⟩
  have hH4 : Below w1.heap.size w1 v4 := hH3.trans (hb.mono hH3.size)
  clear hb
  go_wp2_with fail
  refine hK.out _ _ (fun _ => hH4) ?_
  clear hK K
  try simp only [Act.put, lt, l0, ls]
  refine B.Till.take (i := 15) (oi := ⟨some 18, .binOp .add 9 (.tmp 17) (.const (.string { data := #[37] })) 9, 9, "ref.go:93", #[⟨14, .data⟩], none⟩) (v := .string (T4 ++ ⟨#[37]⟩)) rfl (by kernel_rfl) (by kernel_rfl) (by kernel_rfl) (by kernel_rfl) (fun _ _ _ h => h) (Or.inl ⟨by rfl, fun w0 hS0 => ?_⟩) (by assumption) ?_
  · have hs5 := HS5.out; have ha := run_string_add_sum (P := Tryz.prog) (w := w0) T4 (⟨#[37]⟩ : ByteArray) (by show T4.size + 1 ≤ _; omega); go_simp
  try simp only [Act.put, lt, l0, ls]
  obtain ⟨A4, hA4⟩ : ∃ A, T4 ++ ⟨#[37]⟩ = A := ⟨_, rfl⟩
  rw [hA4] at HR
  try simp only [hA4]
  clear hA4
  refine B.Till.take (i := 18) (oi := ⟨some 21, .build 110 #[(0, .tmp 5), (1, .tmp 8), (2, .tmp 11), (3, .tmp 14), (4, .tmp 18), (5, .tmp 20)], 110, "ref.go:93", #[⟨2, .data⟩, ⟨5, .data⟩, ⟨8, .data⟩, ⟨11, .data⟩, ⟨15, .data⟩, ⟨17, .data⟩], none⟩) (v := .agg #[.string T0, .string T1, .string T2, .string T3, .string A4, .string r.at_]) rfl (by kernel_rfl) (by kernel_rfl) (by kernel_rfl) (by kernel_rfl) (fun _ _ _ h => h) (Or.inl ⟨by rfl, fun w0 hS0 => ?_⟩) (by assumption) ?_
  · go_simp
  try simp only [Act.put, lt, l0, ls]
  refine B.Till.next (i := 19) (o := ⟨none, .store 110 (.tmp 2) (.tmp 21), 0, "ref.go:93", #[⟨18, .data⟩, ⟨14, .chain⟩, ⟨0, .phase⟩, ⟨1, .phase⟩, ⟨2, .phase⟩, ⟨3, .phase⟩, ⟨4, .phase⟩, ⟨5, .phase⟩, ⟨6, .phase⟩, ⟨7, .phase⟩, ⟨8, .phase⟩, ⟨9, .phase⟩, ⟨10, .phase⟩, ⟨11, .phase⟩, ⟨12, .phase⟩, ⟨13, .phase⟩, ⟨14, .phase⟩, ⟨15, .phase⟩, ⟨16, .phase⟩, ⟨17, .phase⟩, ⟨18, .phase⟩], none⟩) (by kernel_rfl) rfl (fun K hK => ?_)
  have HXe := Lib.hid ((hH4.block _ (heap_lt HX.out.2)).trans HX.out.2)
  have HBe := Lib.hid (below_two HB1.out hH4)
  refine step_store_own rfl 110 (.tmp 2) (.tmp 21) rfl B1 #[.string T0, .string T1, .string T2, .string T3, .string A4, .string r.at_] rfl rfl 110 _ HXe.out sizeR6 rfl (r6_one _ _ _ _ _ _) ?_
  refine hK.out _ _ (fun q => absurd rfl q) ?_
  clear hK K
  try simp only [Act.put, lt, l0, ls]
  refine B.Till.done (by kernel_rfl) ?_
  go_wp2_with fail
-- TILL 1 END
  refine bodyPost_ret (v := .agg #[.string T0, .string T1, .string T2, .string T3, .string A4, .string r.at_]) ?_ rfl ⟨by rw [HR.out], below_setR HBe.out HLe.out _⟩
  exact results_cell_row Tryz.results51 _ _ B1 _ _ _ _ rfl (setRow_heap _ _ _ _ _ _ HXe.out) Tryz.underlying110 rfl sizeR6
end Go.Proofs.YtknfhphhcnbndaaGreatDoor.J
