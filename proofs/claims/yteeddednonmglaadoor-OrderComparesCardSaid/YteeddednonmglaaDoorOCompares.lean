/-
  That the law OrderCompares returns true. Conditions: what came in lies in memory.
-/
import Derived.Test.YteeddednonmglaaDoorOSorts
import Derived.Test.YteeddednonmglaaDoorOTill
import Derived.Lib.Strings
set_option linter.unusedVariables false
namespace Go.Proofs.YteeddednonmglaaDoor
open Go.RowKit

def keys2C (x y : Ky) : Array Value := #[.string x.name, .int .i64 x.size, .int .i64 x.time, .bool x.dir, .string y.name, .int .i64 y.size, .int .i64 y.time, .bool y.dir]
theorem keys2_is {w : World} {b : Nat} {x y : Ky} {t : TypeId} (h : w.heap[b]? = some (.cells (keys2C x y) t (0, 0))) : IsKeys w (some ⟨b, 0, none⟩) [x, y] := by
  refine .inr ⟨b, 0, rfl, heap_lt h, fun k c hk j v hj => ?_⟩
  have hj4 : j < 4 := (List.getElem?_eq_some_iff.1 hj).1
  rw [cell_of_row _ _ _ _ _ _ h]
  match k, hk with
  | 0, hk =>
    obtain rfl : x = c := by simpa using hk
    match j, hj4, hj with
    | 0, _, hj => exact hj
    | 1, _, hj => exact hj
    | 2, _, hj => exact hj
    | 3, _, hj => exact hj
  | 1, hk =>
    obtain rfl : y = c := by simpa using hk
    match j, hj4, hj with
    | 0, _, hj => exact hj
    | 1, _, hj => exact hj
    | 2, _, hj => exact hj
    | 3, _, hj => exact hj
  | n + 2, hk => simp at hk

theorem str_ne (a b : ByteArray) (h : a ≠ b) : a.data ≠ b.data ∧ (a.toList == b.toList) = false ∧ a.toList ≠ b.toList := by
  have h2 : a.toList ≠ b.toList := fun z => by
    rw [Lib.toList_data, Lib.toList_data] at z
    exact h (ByteArray.ext (Array.toList_inj.1 z))
  exact ⟨fun z => h (ByteArray.ext z), beq_eq_false_iff_ne.2 h2, h2⟩
set_option maxRecDepth 100000 in
set_option maxHeartbeats 16000000 in
theorem compares_any (o : Int) (x y : Ky) (w : World) (hp : PT w) (hz : ∀ c ∈ [x, y], c.name.size ≤ 9223372036854775807) :
    Calls Tryd.prog 4 #[.int .i64 o, kyV x, kyV y] w fun e w' => e = .returned (.bool true) ∧ Below w.heap.size w w' := by
  have HT := Lib.hid hp
  have HAw := Lib.hid (fun W (hb : Below w.heap.size w W) => oawake_any W (hp.keep hb))
  have HZ := Lib.hid hz
  clear hp hz
  unfold kyV
  go_enter Tryd.func4, Tryd.ntmps4
  go_upto_region 1 with fail
  have HX0 := Lib.hid (two_boxes' w #[.string x.name, .int .i64 x.size, .int .i64 x.time, .bool x.dir] #[.string y.name, .int .i64 y.size, .int .i64 y.time, .bool y.dir] 26)
  generalize (w.alloc (.cells #[.string x.name, .int .i64 x.size, .int .i64 x.time, .bool x.dir] 26)).alloc (.cells #[.string y.name, .int .i64 y.size, .int .i64 y.time, .bool y.dir] 26) = w0 at HX0 ⊢
  have HB0 := Lib.hid HX0.out.2.2
  have HCl := Lib.hid (show ∀ W, Below w0.heap.size w0 W → W.cell? ⟨w.heap.size, 0, none⟩ = some (.string x.name) ∧ W.cell? ⟨w.heap.size, 1, none⟩ = some (.int .i64 x.size) ∧ W.cell? ⟨w.heap.size, 2, none⟩ = some (.int .i64 x.time) ∧ W.cell? ⟨w.heap.size, 3, none⟩ = some (.bool x.dir) ∧ W.cell? ⟨w.heap.size + 1, 0, none⟩ = some (.string y.name) ∧ W.cell? ⟨w.heap.size + 1, 1, none⟩ = some (.int .i64 y.size) ∧ W.cell? ⟨w.heap.size + 1, 2, none⟩ = some (.int .i64 y.time) ∧ W.cell? ⟨w.heap.size + 1, 3, none⟩ = some (.bool y.dir) from fun W hW => by
    have q1 := (hW.block _ (heap_lt HX0.out.1)).trans HX0.out.1
    have q2 := (hW.block _ (heap_lt HX0.out.2.1)).trans HX0.out.2.1
    refine ⟨?_, ?_, ?_, ?_, ?_, ?_, ?_, ?_⟩ <;> first | (rw [cell_of_row _ _ _ _ _ _ q1]; rfl) | (rw [cell_of_row _ _ _ _ _ _ q2]; rfl))
  clear HX0
  go_wp2_with fail
  refine (HAw.out _ HB0.out).mono ?_
  rintro e w2 ⟨rfl, hb2⟩
  have HB2 := Lib.hid hb2
  clear hb2
  obtain ⟨r0, r1, r2, r3, r4, r5, r6, r7⟩ := HCl.out _ HB2.out
  go_wp2_with fail
  have HX3 := Lib.hid (heap_alloc_new w2 (.cells (keys2C x y) 26))
  have HB3 := Lib.hid (show Below w0.heap.size w0 (w2.alloc (.cells (keys2C x y) 26)) from HB2.out.alloc HB2.out.size _)
  unfold keys2C at HX3 HB3
  generalize w2.alloc (.cells #[.string x.name, .int .i64 x.size, .int .i64 x.time, .bool x.dir, .string y.name, .int .i64 y.size, .int .i64 y.time, .bool y.dir] 26) = w3 at HX3 HB3 ⊢
  have hF := kfew_any [x, y] (some ⟨w2.heap.size, 0, none⟩) 2 2 w3 (keys2_is HX3.out) (by show 2 ≤ 9223372036854775807; decide) HZ.out
  simp only [show [x, y].length = 2 from rfl] at hF
  clear r0 r1 r2 r3 r4 r5 r6 r7
  refine hF.mono ?_
  rintro e wd ⟨b, rfl, hb, rfl⟩
  have HBb := Lib.hid hb
  have HBq := Lib.hid (below_two HB0.out HB3.out)
  clear hb hF
  obtain ⟨r0, r1, r2, r3, r4, r5, r6, r7⟩ := HCl.out _ HB3.out
  cases b with
  | false =>
    go_wp2_with fail
    refine (HAw.out _ HBq.out).mono ?_
    rintro e w4 ⟨rfl, hb4⟩
    have HB4 := Lib.hid (below_two HBq.out hb4)
    clear hb4
    go_wp2_with fail
    go_ret
    exact ⟨rfl, HB4.out⟩
  | true =>
    obtain ⟨f1, f2⟩ := HBb.out.1 rfl
    have hn := few_names f1 (by show 2 ≤ 200; decide)
    have hnx := hn x (by simp)
    have hny := hn y (by simp)
    have HCp := Lib.hid (fun W (hb : Below w.heap.size w W) => ocmp_any o x y W (HT.out.keep hb) hnx hny)
    have HRc := Lib.hid (fun W => rcompare_any o x y W hnx hny)
    have HEp := Lib.hid (fun W (hb : Below w.heap.size w W) => oext_any x.name W (HT.out.keep hb) hnx)
    have HEr := Lib.hid (fun W => rext_any x.name W (by omega))
    have HVp := Lib.hid (fun W (hb : Below w.heap.size w W) => over_any x.name y.name W (HT.out.keep hb) hnx hny)
    have HVr := Lib.hid (fun W => rversion_any x.name y.name W hnx hny)
    have HIf := Lib.hid (cmpK_iff o x y)
    unfold kyV at HCp HRc
    generalize cmpK o x y = C at HCp HRc HIf
    generalize mkB (extL x.name.data.toList) = E at HEp HEr
    generalize verL x.name.data.toList y.name.data.toList = V at HVp HVr
    clear f1 f2 HBb hn hnx hny HX3
    go_upto_region 4 with (go_at_call 11; refine (HCp.out _ HBq.out).mono ?_; rintro e w4 ⟨rfl, hb⟩; have HB4 := Lib.hid hb; clear hb)
    have HBr := Lib.hid HBq.out
    clear HBq r0 r1 r2 r3 r4 r5 r6 r7
    have HBq := Lib.hid (below_two HBr.out HB4.out)
    have HB5 := Lib.hid (below_two HB3.out HB4.out)
    clear HB3
    have HB3 := HB5
    by_cases hne : x.name = y.name
    · have HNq := Lib.hid (show x.name = y.name ∧ (x.name.toList == y.name.toList) = true ∧ x.name.data = y.name.data from ⟨hne, by rw [hne]; exact beq_self_eq_true _, by rw [hne]⟩)
      by_cases o1 : o = 1
      · have HO1 := Lib.hid (show (o != 1) = false from by rw [o1]; rfl)
        have HO2 := Lib.hid (show (o != 2) = true from by rw [o1]; rfl)
        by_cases hs : x.size = y.size
        · have HSq := Lib.hid (show (x.size == y.size) = true from beq_iff_eq.2 hs)
          have HZq := Lib.hid (show (C == 0) = true from beq_iff_eq.2 (HIf.out.2 ⟨hne, fun _ => hs, fun z => by omega⟩))
          clear hne o1 hs
-- TILL 42
          refine Till.region (z := 1000) (S := fun w' => Below w4.heap.size w4 w') (by kernel_rfl) ((Below.refl _ _).drew) (fun hHeld => ?_)
          refine Till.takeA (i := 0) (oi := { dst := some 22, op := Op.move (Operand.tmp 7), type := 3, pos := "law.go:18", after := #[], guard := none }) (v := .int .i64 C) rfl (by kernel_rfl) (by kernel_rfl) (by kernel_rfl) (by rfl) (fun _ _ _ h => h) (Or.inl ⟨by rfl, fun w0 hS0 => ?_⟩) (by assumption) ?_
          · go_simp
          try simp only [Act.put, List.setIfInBounds_toArray, List.set_cons_zero, List.set_cons_succ]
          refine Till.takeA (i := 1) (oi := { dst := some 23, op := Op.move (Operand.tmp 0), type := 3, pos := "law.go:18", after := #[], guard := none }) (v := .int .i64 o) rfl (by kernel_rfl) (by kernel_rfl) (by kernel_rfl) (by rfl) (fun _ _ _ h => h) (Or.inl ⟨by rfl, fun w0 hS0 => ?_⟩) (by assumption) ?_
          · go_simp
          try simp only [Act.put, List.setIfInBounds_toArray, List.set_cons_zero, List.set_cons_succ]
          refine Till.takeA (i := 2) (oi := { dst := some 24, op := Op.load 26 (Operand.tmp 4), type := 26, pos := "law.go:18", after := #[], guard := none }) (v := .agg #[.string x.name, .int .i64 x.size, .int .i64 x.time, .bool x.dir]) rfl (by kernel_rfl) (by kernel_rfl) (by kernel_rfl) (by rfl) (fun _ _ _ h => h) (Or.inl ⟨by rfl, fun w0 hS0 => ?_⟩) (by assumption) ?_
          · obtain ⟨r0, r1, r2, r3, r4, r5, r6, r7⟩ := HCl.out _ (below_two HB3.out hS0); go_simp
          try simp only [Act.put, List.setIfInBounds_toArray, List.set_cons_zero, List.set_cons_succ]
          refine Till.takeA (i := 3) (oi := { dst := some 25, op := Op.load 26 (Operand.tmp 5), type := 26, pos := "law.go:18", after := #[], guard := none }) (v := .agg #[.string y.name, .int .i64 y.size, .int .i64 y.time, .bool y.dir]) rfl (by kernel_rfl) (by kernel_rfl) (by kernel_rfl) (by rfl) (fun _ _ _ h => h) (Or.inl ⟨by rfl, fun w0 hS0 => ?_⟩) (by assumption) ?_
          · obtain ⟨r0, r1, r2, r3, r4, r5, r6, r7⟩ := HCl.out _ (below_two HB3.out hS0); go_simp
          try simp only [Act.put, List.setIfInBounds_toArray, List.set_cons_zero, List.set_cons_succ]
          refine Till.next (i := 4) (o := { dst := some 26, op := Op.call { callee := Callee.value (Operand.func 12), args := #[Operand.tmp 23, Operand.tmp 24, Operand.tmp 25], argTypes := #[3, 26, 26] }, type := 3, pos := "law.go:18", after := #[{ on := 1, ground := Ground.data }, { on := 2, ground := Ground.data }, { on := 3, ground := Ground.data }], guard := none }) (by kernel_rfl) rfl (fun K hK => ?_)
          go_simp
          refine (HRc.out _).mono ?_
          rintro e w5 ⟨rfl, hb⟩
          have hHeld5 : Below w4.heap.size w4 w5 := below_two hHeld hb
          clear hb
          go_wp2_with fail
          refine hK.out _ _ (fun _ => hHeld5) ?_
          clear hK K
          try simp only [Act.put, List.setIfInBounds_toArray, List.set_cons_zero, List.set_cons_succ]
          refine Till.takeA (i := 5) (oi := { dst := some 27, op := Op.binOp BinOp.eql 3 (Operand.tmp 22) (Operand.tmp 26) 3, type := 4, pos := "law.go:18", after := #[{ on := 0, ground := Ground.data }, { on := 4, ground := Ground.data }], guard := none }) (v := .bool true) rfl (by kernel_rfl) (by kernel_rfl) (by kernel_rfl) (by rfl) (fun _ _ _ h => h) (Or.inl ⟨by rfl, fun w0 hS0 => ?_⟩) (by assumption) ?_
          · go_simp
          try simp only [Act.put, List.setIfInBounds_toArray, List.set_cons_zero, List.set_cons_succ]
          refine Till.takeA (i := 6) (oi := { dst := some 28, op := Op.move (Operand.tmp 27), type := 4, pos := "law.go:18", after := #[{ on := 5, ground := Ground.data }, { on := 4, ground := Ground.chain }], guard := none }) (v := .bool true) rfl (by kernel_rfl) (by kernel_rfl) (by kernel_rfl) (by rfl) (fun _ _ _ h => h) (Or.inl ⟨by rfl, fun w0 hS0 => ?_⟩) (by assumption) ?_
          · go_simp
          try simp only [Act.put, List.setIfInBounds_toArray, List.set_cons_zero, List.set_cons_succ]
          refine Till.takeA (i := 7) (oi := { dst := some 29, op := Op.move (Operand.tmp 7), type := 3, pos := "law.go:18", after := #[{ on := 6, ground := Ground.guard }], guard := some (6, true) }) (v := .int .i64 C) rfl (by kernel_rfl) (by kernel_rfl) (by kernel_rfl) (by rfl) (fun _ _ _ h => h) (Or.inl ⟨by rfl, fun w0 hS0 => ?_⟩) (by assumption) ?_
          · go_simp
          try simp only [Act.put, List.setIfInBounds_toArray, List.set_cons_zero, List.set_cons_succ]
          refine Till.takeA (i := 8) (oi := { dst := some 30, op := Op.binOp BinOp.eql 3 (Operand.tmp 29) (Operand.const (Value.int IntKind.i64 0)) 3, type := 4, pos := "law.go:18", after := #[{ on := 7, ground := Ground.data }, { on := 6, ground := Ground.guard }], guard := some (6, true) }) (v := .bool true) rfl (by kernel_rfl) (by kernel_rfl) (by kernel_rfl) (by rfl) (fun _ _ _ h => h) (Or.inl ⟨by rfl, fun w0 hS0 => ?_⟩) (by assumption) ?_
          · have hq := HZq.out; go_simp
          try simp only [Act.put, List.setIfInBounds_toArray, List.set_cons_zero, List.set_cons_succ]
          refine Till.takeA (i := 9) (oi := { dst := some 31, op := Op.fieldAddr 26 (Operand.tmp 4) 0, type := 0, pos := "law.go:18", after := #[{ on := 6, ground := Ground.guard }], guard := some (6, true) }) (v := .pointer (some ⟨w.heap.size, 0, none⟩)) rfl (by kernel_rfl) (by kernel_rfl) (by kernel_rfl) (by rfl) (fun _ _ _ h => h) (Or.inl ⟨by rfl, fun w0 hS0 => ?_⟩) (by assumption) ?_
          · go_simp
          try simp only [Act.put, List.setIfInBounds_toArray, List.set_cons_zero, List.set_cons_succ]
          refine Till.takeA (i := 10) (oi := { dst := some 32, op := Op.load 9 (Operand.tmp 31), type := 9, pos := "law.go:18", after := #[{ on := 9, ground := Ground.data }, { on := 6, ground := Ground.guard }], guard := some (6, true) }) (v := .string x.name) rfl (by kernel_rfl) (by kernel_rfl) (by kernel_rfl) (by rfl) (fun _ _ _ h => h) (Or.inl ⟨by rfl, fun w0 hS0 => ?_⟩) (by assumption) ?_
          · obtain ⟨r0, r1, r2, r3, r4, r5, r6, r7⟩ := HCl.out _ (below_two HB3.out hS0); go_simp
          try simp only [Act.put, List.setIfInBounds_toArray, List.set_cons_zero, List.set_cons_succ]
          refine Till.takeA (i := 11) (oi := { dst := some 33, op := Op.fieldAddr 26 (Operand.tmp 5) 0, type := 0, pos := "law.go:18", after := #[{ on := 6, ground := Ground.guard }], guard := some (6, true) }) (v := .pointer (some ⟨w.heap.size + 1, 0, none⟩)) rfl (by kernel_rfl) (by kernel_rfl) (by kernel_rfl) (by rfl) (fun _ _ _ h => h) (Or.inl ⟨by rfl, fun w0 hS0 => ?_⟩) (by assumption) ?_
          · go_simp
          try simp only [Act.put, List.setIfInBounds_toArray, List.set_cons_zero, List.set_cons_succ]
          refine Till.takeA (i := 12) (oi := { dst := some 34, op := Op.load 9 (Operand.tmp 33), type := 9, pos := "law.go:18", after := #[{ on := 11, ground := Ground.data }, { on := 6, ground := Ground.guard }], guard := some (6, true) }) (v := .string y.name) rfl (by kernel_rfl) (by kernel_rfl) (by kernel_rfl) (by rfl) (fun _ _ _ h => h) (Or.inl ⟨by rfl, fun w0 hS0 => ?_⟩) (by assumption) ?_
          · obtain ⟨r0, r1, r2, r3, r4, r5, r6, r7⟩ := HCl.out _ (below_two HB3.out hS0); go_simp
          try simp only [Act.put, List.setIfInBounds_toArray, List.set_cons_zero, List.set_cons_succ]
          refine Till.takeA (i := 13) (oi := { dst := some 35, op := Op.binOp BinOp.eql 9 (Operand.tmp 32) (Operand.tmp 34) 9, type := 4, pos := "law.go:18", after := #[{ on := 10, ground := Ground.data }, { on := 12, ground := Ground.data }, { on := 6, ground := Ground.guard }], guard := some (6, true) }) (v := .bool true) rfl (by kernel_rfl) (by kernel_rfl) (by kernel_rfl) (by rfl) (fun _ _ _ h => h) (Or.inl ⟨by rfl, fun w0 hS0 => ?_⟩) (by assumption) ?_
          · obtain ⟨hq1, hq2, hq3⟩ := HNq.out; go_simp
          try simp only [Act.put, List.setIfInBounds_toArray, List.set_cons_zero, List.set_cons_succ]
          refine Till.takeA (i := 14) (oi := { dst := some 36, op := Op.move (Operand.tmp 35), type := 4, pos := "law.go:18", after := #[{ on := 13, ground := Ground.data }, { on := 6, ground := Ground.chain }, { on := 6, ground := Ground.guard }], guard := some (6, true) }) (v := .bool true) rfl (by kernel_rfl) (by kernel_rfl) (by kernel_rfl) (by rfl) (fun _ _ _ h => h) (Or.inl ⟨by rfl, fun w0 hS0 => ?_⟩) (by assumption) ?_
          · go_simp
          try simp only [Act.put, List.setIfInBounds_toArray, List.set_cons_zero, List.set_cons_succ]
          refine Till.takeA (i := 15) (oi := { dst := some 37, op := Op.move (Operand.tmp 0), type := 3, pos := "law.go:18", after := #[{ on := 14, ground := Ground.guard }], guard := some (14, true) }) (v := .int .i64 o) rfl (by kernel_rfl) (by kernel_rfl) (by kernel_rfl) (by rfl) (fun _ _ _ h => h) (Or.inl ⟨by rfl, fun w0 hS0 => ?_⟩) (by assumption) ?_
          · go_simp
          try simp only [Act.put, List.setIfInBounds_toArray, List.set_cons_zero, List.set_cons_succ]
          refine Till.takeA (i := 16) (oi := { dst := some 38, op := Op.binOp BinOp.neq 3 (Operand.tmp 37) (Operand.const (Value.int IntKind.i64 1)) 3, type := 4, pos := "law.go:18", after := #[{ on := 15, ground := Ground.data }, { on := 14, ground := Ground.guard }], guard := some (14, true) }) (v := .bool false) rfl (by kernel_rfl) (by kernel_rfl) (by kernel_rfl) (by rfl) (fun _ _ _ h => h) (Or.inl ⟨by rfl, fun w0 hS0 => ?_⟩) (by assumption) ?_
          · have hq := HO1.out; go_simp
          try simp only [Act.put, List.setIfInBounds_toArray, List.set_cons_zero, List.set_cons_succ]
          refine Till.takeA (i := 17) (oi := { dst := some 39, op := Op.move (Operand.tmp 38), type := 4, pos := "law.go:18", after := #[{ on := 16, ground := Ground.data }, { on := 14, ground := Ground.chain }, { on := 14, ground := Ground.guard }], guard := some (14, true) }) (v := .bool false) rfl (by kernel_rfl) (by kernel_rfl) (by kernel_rfl) (by rfl) (fun _ _ _ h => h) (Or.inl ⟨by rfl, fun w0 hS0 => ?_⟩) (by assumption) ?_
          · go_simp
          try simp only [Act.put, List.setIfInBounds_toArray, List.set_cons_zero, List.set_cons_succ]
          refine Till.takeA (i := 18) (oi := { dst := some 40, op := Op.fieldAddr 26 (Operand.tmp 4) 1, type := 0, pos := "law.go:18", after := #[{ on := 17, ground := Ground.guard }], guard := some (17, false) }) (v := .pointer (some ⟨w.heap.size, 1, none⟩)) rfl (by kernel_rfl) (by kernel_rfl) (by kernel_rfl) (by rfl) (fun _ _ _ h => h) (Or.inl ⟨by rfl, fun w0 hS0 => ?_⟩) (by assumption) ?_
          · go_simp
          try simp only [Act.put, List.setIfInBounds_toArray, List.set_cons_zero, List.set_cons_succ]
          refine Till.takeA (i := 19) (oi := { dst := some 41, op := Op.load 2 (Operand.tmp 40), type := 2, pos := "law.go:18", after := #[{ on := 18, ground := Ground.data }, { on := 17, ground := Ground.guard }], guard := some (17, false) }) (v := .int .i64 x.size) rfl (by kernel_rfl) (by kernel_rfl) (by kernel_rfl) (by rfl) (fun _ _ _ h => h) (Or.inl ⟨by rfl, fun w0 hS0 => ?_⟩) (by assumption) ?_
          · obtain ⟨r0, r1, r2, r3, r4, r5, r6, r7⟩ := HCl.out _ (below_two HB3.out hS0); go_simp
          try simp only [Act.put, List.setIfInBounds_toArray, List.set_cons_zero, List.set_cons_succ]
          refine Till.takeA (i := 20) (oi := { dst := some 42, op := Op.fieldAddr 26 (Operand.tmp 5) 1, type := 0, pos := "law.go:18", after := #[{ on := 17, ground := Ground.guard }], guard := some (17, false) }) (v := .pointer (some ⟨w.heap.size + 1, 1, none⟩)) rfl (by kernel_rfl) (by kernel_rfl) (by kernel_rfl) (by rfl) (fun _ _ _ h => h) (Or.inl ⟨by rfl, fun w0 hS0 => ?_⟩) (by assumption) ?_
          · go_simp
          try simp only [Act.put, List.setIfInBounds_toArray, List.set_cons_zero, List.set_cons_succ]
          refine Till.takeA (i := 21) (oi := { dst := some 43, op := Op.load 2 (Operand.tmp 42), type := 2, pos := "law.go:18", after := #[{ on := 20, ground := Ground.data }, { on := 17, ground := Ground.guard }], guard := some (17, false) }) (v := .int .i64 y.size) rfl (by kernel_rfl) (by kernel_rfl) (by kernel_rfl) (by rfl) (fun _ _ _ h => h) (Or.inl ⟨by rfl, fun w0 hS0 => ?_⟩) (by assumption) ?_
          · obtain ⟨r0, r1, r2, r3, r4, r5, r6, r7⟩ := HCl.out _ (below_two HB3.out hS0); go_simp
          try simp only [Act.put, List.setIfInBounds_toArray, List.set_cons_zero, List.set_cons_succ]
          refine Till.takeA (i := 22) (oi := { dst := some 44, op := Op.binOp BinOp.eql 2 (Operand.tmp 41) (Operand.tmp 43) 2, type := 4, pos := "law.go:18", after := #[{ on := 19, ground := Ground.data }, { on := 21, ground := Ground.data }, { on := 17, ground := Ground.guard }], guard := some (17, false) }) (v := .bool true) rfl (by kernel_rfl) (by kernel_rfl) (by kernel_rfl) (by rfl) (fun _ _ _ h => h) (Or.inl ⟨by rfl, fun w0 hS0 => ?_⟩) (by assumption) ?_
          · have hq := HSq.out; go_simp
          try simp only [Act.put, List.setIfInBounds_toArray, List.set_cons_zero, List.set_cons_succ]
          refine Till.takeA (i := 23) (oi := { dst := some 45, op := Op.pick (Operand.tmp 39) (Operand.const (Value.bool true)) (Operand.tmp 44), type := 4, pos := "law.go:18", after := #[{ on := 17, ground := Ground.data }, { on := 22, ground := Ground.data }, { on := 14, ground := Ground.guard }], guard := some (14, true) }) (v := .bool true) rfl (by kernel_rfl) (by kernel_rfl) (by kernel_rfl) (by rfl) (fun _ _ _ h => h) (Or.inl ⟨by rfl, fun w0 hS0 => ?_⟩) (by assumption) ?_
          · go_simp
          try simp only [Act.put, List.setIfInBounds_toArray, List.set_cons_zero, List.set_cons_succ]
          refine Till.takeA (i := 24) (oi := { dst := some 46, op := Op.pick (Operand.tmp 36) (Operand.tmp 45) (Operand.const (Value.bool false)), type := 4, pos := "law.go:18", after := #[{ on := 14, ground := Ground.data }, { on := 23, ground := Ground.data }, { on := 6, ground := Ground.guard }], guard := some (6, true) }) (v := .bool true) rfl (by kernel_rfl) (by kernel_rfl) (by kernel_rfl) (by rfl) (fun _ _ _ h => h) (Or.inl ⟨by rfl, fun w0 hS0 => ?_⟩) (by assumption) ?_
          · go_simp
          try simp only [Act.put, List.setIfInBounds_toArray, List.set_cons_zero, List.set_cons_succ]
          refine Till.takeA (i := 25) (oi := { dst := some 47, op := Op.move (Operand.tmp 46), type := 4, pos := "law.go:18", after := #[{ on := 24, ground := Ground.data }, { on := 17, ground := Ground.chain }, { on := 6, ground := Ground.guard }], guard := some (6, true) }) (v := .bool true) rfl (by kernel_rfl) (by kernel_rfl) (by kernel_rfl) (by rfl) (fun _ _ _ h => h) (Or.inl ⟨by rfl, fun w0 hS0 => ?_⟩) (by assumption) ?_
          · go_simp
          try simp only [Act.put, List.setIfInBounds_toArray, List.set_cons_zero, List.set_cons_succ]
          refine Till.takeA (i := 26) (oi := { dst := some 48, op := Op.move (Operand.tmp 0), type := 3, pos := "law.go:18", after := #[{ on := 25, ground := Ground.guard }], guard := some (25, true) }) (v := .int .i64 o) rfl (by kernel_rfl) (by kernel_rfl) (by kernel_rfl) (by rfl) (fun _ _ _ h => h) (Or.inl ⟨by rfl, fun w0 hS0 => ?_⟩) (by assumption) ?_
          · go_simp
          try simp only [Act.put, List.setIfInBounds_toArray, List.set_cons_zero, List.set_cons_succ]
          refine Till.takeA (i := 27) (oi := { dst := some 49, op := Op.binOp BinOp.neq 3 (Operand.tmp 48) (Operand.const (Value.int IntKind.i64 2)) 3, type := 4, pos := "law.go:18", after := #[{ on := 26, ground := Ground.data }, { on := 25, ground := Ground.guard }], guard := some (25, true) }) (v := .bool true) rfl (by kernel_rfl) (by kernel_rfl) (by kernel_rfl) (by rfl) (fun _ _ _ h => h) (Or.inl ⟨by rfl, fun w0 hS0 => ?_⟩) (by assumption) ?_
          · have hq := HO2.out; go_simp
          try simp only [Act.put, List.setIfInBounds_toArray, List.set_cons_zero, List.set_cons_succ]
          refine Till.takeA (i := 28) (oi := { dst := some 50, op := Op.move (Operand.tmp 49), type := 4, pos := "law.go:18", after := #[{ on := 27, ground := Ground.data }, { on := 25, ground := Ground.chain }, { on := 25, ground := Ground.guard }], guard := some (25, true) }) (v := .bool true) rfl (by kernel_rfl) (by kernel_rfl) (by kernel_rfl) (by rfl) (fun _ _ _ h => h) (Or.inl ⟨by rfl, fun w0 hS0 => ?_⟩) (by assumption) ?_
          · go_simp
          try simp only [Act.put, List.setIfInBounds_toArray, List.set_cons_zero, List.set_cons_succ]
          refine Till.takeA (i := 29) (oi := { dst := some 51, op := Op.fieldAddr 26 (Operand.tmp 4) 2, type := 0, pos := "law.go:18", after := #[{ on := 28, ground := Ground.guard }], guard := some (28, false) }) (v := undef) rfl (by kernel_rfl) (by kernel_rfl) (by kernel_rfl) (by rfl) (fun _ _ _ h => h) (Or.inr ⟨by rfl, rfl⟩) (by assumption) ?_
          try simp only [Act.put, List.setIfInBounds_toArray, List.set_cons_zero, List.set_cons_succ]
          refine Till.takeA (i := 30) (oi := { dst := some 52, op := Op.load 2 (Operand.tmp 51), type := 2, pos := "law.go:18", after := #[{ on := 29, ground := Ground.data }, { on := 28, ground := Ground.guard }], guard := some (28, false) }) (v := undef) rfl (by kernel_rfl) (by kernel_rfl) (by kernel_rfl) (by rfl) (fun _ _ _ h => h) (Or.inr ⟨by rfl, rfl⟩) (by assumption) ?_
          try simp only [Act.put, List.setIfInBounds_toArray, List.set_cons_zero, List.set_cons_succ]
          refine Till.takeA (i := 31) (oi := { dst := some 53, op := Op.fieldAddr 26 (Operand.tmp 5) 2, type := 0, pos := "law.go:18", after := #[{ on := 28, ground := Ground.guard }], guard := some (28, false) }) (v := undef) rfl (by kernel_rfl) (by kernel_rfl) (by kernel_rfl) (by rfl) (fun _ _ _ h => h) (Or.inr ⟨by rfl, rfl⟩) (by assumption) ?_
          try simp only [Act.put, List.setIfInBounds_toArray, List.set_cons_zero, List.set_cons_succ]
          refine Till.takeA (i := 32) (oi := { dst := some 54, op := Op.load 2 (Operand.tmp 53), type := 2, pos := "law.go:18", after := #[{ on := 31, ground := Ground.data }, { on := 28, ground := Ground.guard }], guard := some (28, false) }) (v := undef) rfl (by kernel_rfl) (by kernel_rfl) (by kernel_rfl) (by rfl) (fun _ _ _ h => h) (Or.inr ⟨by rfl, rfl⟩) (by assumption) ?_
          try simp only [Act.put, List.setIfInBounds_toArray, List.set_cons_zero, List.set_cons_succ]
          refine Till.takeA (i := 33) (oi := { dst := some 55, op := Op.binOp BinOp.eql 2 (Operand.tmp 52) (Operand.tmp 54) 2, type := 4, pos := "law.go:18", after := #[{ on := 30, ground := Ground.data }, { on := 32, ground := Ground.data }, { on := 28, ground := Ground.guard }], guard := some (28, false) }) (v := undef) rfl (by kernel_rfl) (by kernel_rfl) (by kernel_rfl) (by rfl) (fun _ _ _ h => h) (Or.inr ⟨by rfl, rfl⟩) (by assumption) ?_
          try simp only [Act.put, List.setIfInBounds_toArray, List.set_cons_zero, List.set_cons_succ]
          refine Till.takeA (i := 34) (oi := { dst := some 56, op := Op.pick (Operand.tmp 50) (Operand.const (Value.bool true)) (Operand.tmp 55), type := 4, pos := "law.go:18", after := #[{ on := 28, ground := Ground.data }, { on := 33, ground := Ground.data }, { on := 25, ground := Ground.guard }], guard := some (25, true) }) (v := .bool true) rfl (by kernel_rfl) (by kernel_rfl) (by kernel_rfl) (by rfl) (fun _ _ _ h => h) (Or.inl ⟨by rfl, fun w0 hS0 => ?_⟩) (by assumption) ?_
          · go_simp
          try simp only [Act.put, List.setIfInBounds_toArray, List.set_cons_zero, List.set_cons_succ]
          refine Till.takeA (i := 35) (oi := { dst := some 57, op := Op.pick (Operand.tmp 47) (Operand.tmp 56) (Operand.const (Value.bool false)), type := 4, pos := "law.go:18", after := #[{ on := 25, ground := Ground.data }, { on := 34, ground := Ground.data }, { on := 6, ground := Ground.guard }], guard := some (6, true) }) (v := .bool true) rfl (by kernel_rfl) (by kernel_rfl) (by kernel_rfl) (by rfl) (fun _ _ _ h => h) (Or.inl ⟨by rfl, fun w0 hS0 => ?_⟩) (by assumption) ?_
          · go_simp
          try simp only [Act.put, List.setIfInBounds_toArray, List.set_cons_zero, List.set_cons_succ]
          refine Till.takeA (i := 36) (oi := { dst := some 58, op := Op.binOp BinOp.eql 4 (Operand.tmp 30) (Operand.tmp 57) 4, type := 4, pos := "law.go:18", after := #[{ on := 8, ground := Ground.data }, { on := 35, ground := Ground.data }, { on := 6, ground := Ground.guard }], guard := some (6, true) }) (v := .bool true) rfl (by kernel_rfl) (by kernel_rfl) (by kernel_rfl) (by rfl) (fun _ _ _ h => h) (Or.inl ⟨by rfl, fun w0 hS0 => ?_⟩) (by assumption) ?_
          · go_simp
          try simp only [Act.put, List.setIfInBounds_toArray, List.set_cons_zero, List.set_cons_succ]
          refine Till.takeA (i := 37) (oi := { dst := some 59, op := Op.pick (Operand.tmp 28) (Operand.tmp 58) (Operand.const (Value.bool false)), type := 4, pos := "law.go:18", after := #[{ on := 6, ground := Ground.data }, { on := 36, ground := Ground.data }], guard := none }) (v := .bool true) rfl (by kernel_rfl) (by kernel_rfl) (by kernel_rfl) (by rfl) (fun _ _ _ h => h) (Or.inl ⟨by rfl, fun w0 hS0 => ?_⟩) (by assumption) ?_
          · go_simp
          try simp only [Act.put, List.setIfInBounds_toArray, List.set_cons_zero, List.set_cons_succ]
          refine Till.takeA (i := 38) (oi := { dst := some 60, op := Op.move (Operand.tmp 59), type := 4, pos := "law.go:18", after := #[{ on := 37, ground := Ground.data }, { on := 28, ground := Ground.chain }], guard := none }) (v := .bool true) rfl (by kernel_rfl) (by kernel_rfl) (by kernel_rfl) (by rfl) (fun _ _ _ h => h) (Or.inl ⟨by rfl, fun w0 hS0 => ?_⟩) (by assumption) ?_
          · go_simp
          try simp only [Act.put, List.setIfInBounds_toArray, List.set_cons_zero, List.set_cons_succ]
          refine Till.takeA (i := 39) (oi := { dst := some 61, op := Op.fieldAddr 26 (Operand.tmp 4) 0, type := 0, pos := "law.go:18", after := #[{ on := 38, ground := Ground.guard }], guard := some (38, true) }) (v := .pointer (some ⟨w.heap.size, 0, none⟩)) rfl (by kernel_rfl) (by kernel_rfl) (by kernel_rfl) (by rfl) (fun _ _ _ h => h) (Or.inl ⟨by rfl, fun w0 hS0 => ?_⟩) (by assumption) ?_
          · go_simp
          try simp only [Act.put, List.setIfInBounds_toArray, List.set_cons_zero, List.set_cons_succ]
          refine Till.takeA (i := 40) (oi := { dst := some 62, op := Op.load 9 (Operand.tmp 61), type := 9, pos := "law.go:18", after := #[{ on := 39, ground := Ground.data }, { on := 38, ground := Ground.guard }], guard := some (38, true) }) (v := .string x.name) rfl (by kernel_rfl) (by kernel_rfl) (by kernel_rfl) (by rfl) (fun _ _ _ h => h) (Or.inl ⟨by rfl, fun w0 hS0 => ?_⟩) (by assumption) ?_
          · obtain ⟨r0, r1, r2, r3, r4, r5, r6, r7⟩ := HCl.out _ (below_two HB3.out hS0); go_simp
          try simp only [Act.put, List.setIfInBounds_toArray, List.set_cons_zero, List.set_cons_succ]
          refine Till.takeA (i := 42) (oi := { dst := some 64, op := Op.fieldAddr 26 (Operand.tmp 4) 0, type := 0, pos := "law.go:18", after := #[{ on := 38, ground := Ground.guard }], guard := some (38, true) }) (v := .pointer (some ⟨w.heap.size, 0, none⟩)) rfl (by kernel_rfl) (by kernel_rfl) (by kernel_rfl) (by rfl) (fun _ _ _ h => h) (Or.inl ⟨by rfl, fun w0 hS0 => ?_⟩) (by assumption) ?_
          · go_simp
          try simp only [Act.put, List.setIfInBounds_toArray, List.set_cons_zero, List.set_cons_succ]
          refine Till.takeA (i := 43) (oi := { dst := some 65, op := Op.load 9 (Operand.tmp 64), type := 9, pos := "law.go:18", after := #[{ on := 42, ground := Ground.data }, { on := 38, ground := Ground.guard }], guard := some (38, true) }) (v := .string x.name) rfl (by kernel_rfl) (by kernel_rfl) (by kernel_rfl) (by rfl) (fun _ _ _ h => h) (Or.inl ⟨by rfl, fun w0 hS0 => ?_⟩) (by assumption) ?_
          · obtain ⟨r0, r1, r2, r3, r4, r5, r6, r7⟩ := HCl.out _ (below_two HB3.out hS0); go_simp
          try simp only [Act.put, List.setIfInBounds_toArray, List.set_cons_zero, List.set_cons_succ]
          refine Till.next (i := 41) (o := { dst := some 63, op := Op.call { callee := Callee.value (Operand.func 13), args := #[Operand.tmp 62], argTypes := #[9] }, type := 9, pos := "law.go:18", after := #[{ on := 40, ground := Ground.data }, { on := 38, ground := Ground.chain }, { on := 38, ground := Ground.guard }], guard := some (38, true) }) (by kernel_rfl) rfl (fun K hK => ?_)
          go_simp
          refine (HEp.out _ (below_two HBq.out hHeld5)).mono ?_
          rintro e w6 ⟨rfl, hb⟩
          have hHeld6 : Below w4.heap.size w4 w6 := below_two hHeld5 hb
          clear hb
          go_wp2_with fail
          refine hK.out _ _ (fun _ => hHeld6) ?_
          clear hK K
          try simp only [Act.put, List.setIfInBounds_toArray, List.set_cons_zero, List.set_cons_succ]
          refine Till.next (i := 44) (o := { dst := some 66, op := Op.call { callee := Callee.value (Operand.func 14), args := #[Operand.tmp 65], argTypes := #[9] }, type := 9, pos := "law.go:18", after := #[{ on := 43, ground := Ground.data }, { on := 41, ground := Ground.chain }, { on := 38, ground := Ground.guard }], guard := some (38, true) }) (by kernel_rfl) rfl (fun K hK => ?_)
          go_simp
          refine (HEr.out _).mono ?_
          rintro e w7 ⟨rfl, hb⟩
          have hHeld7 : Below w4.heap.size w4 w7 := by rw [← hb]; exact hHeld6
          clear hb
          go_wp2_with fail
          refine hK.out _ _ (fun _ => hHeld7) ?_
          clear hK K
          try simp only [Act.put, List.setIfInBounds_toArray, List.set_cons_zero, List.set_cons_succ]
          refine Till.takeA (i := 45) (oi := { dst := some 67, op := Op.binOp BinOp.eql 9 (Operand.tmp 63) (Operand.tmp 66) 9, type := 4, pos := "law.go:18", after := #[{ on := 41, ground := Ground.data }, { on := 44, ground := Ground.data }, { on := 38, ground := Ground.guard }], guard := some (38, true) }) (v := .bool true) rfl (by kernel_rfl) (by kernel_rfl) (by kernel_rfl) (by rfl) (fun _ _ _ h => h) (Or.inl ⟨by rfl, fun w0 hS0 => ?_⟩) (by assumption) ?_
          · go_simp
          try simp only [Act.put, List.setIfInBounds_toArray, List.set_cons_zero, List.set_cons_succ]
          refine Till.takeA (i := 46) (oi := { dst := some 68, op := Op.pick (Operand.tmp 60) (Operand.tmp 67) (Operand.const (Value.bool false)), type := 4, pos := "law.go:18", after := #[{ on := 38, ground := Ground.data }, { on := 45, ground := Ground.data }], guard := none }) (v := .bool true) rfl (by kernel_rfl) (by kernel_rfl) (by kernel_rfl) (by rfl) (fun _ _ _ h => h) (Or.inl ⟨by rfl, fun w0 hS0 => ?_⟩) (by assumption) ?_
          · go_simp
          try simp only [Act.put, List.setIfInBounds_toArray, List.set_cons_zero, List.set_cons_succ]
          refine Till.takeA (i := 47) (oi := { dst := some 69, op := Op.move (Operand.tmp 68), type := 4, pos := "law.go:18", after := #[{ on := 46, ground := Ground.data }, { on := 44, ground := Ground.chain }], guard := none }) (v := .bool true) rfl (by kernel_rfl) (by kernel_rfl) (by kernel_rfl) (by rfl) (fun _ _ _ h => h) (Or.inl ⟨by rfl, fun w0 hS0 => ?_⟩) (by assumption) ?_
          · go_simp
          try simp only [Act.put, List.setIfInBounds_toArray, List.set_cons_zero, List.set_cons_succ]
          refine Till.takeA (i := 48) (oi := { dst := some 70, op := Op.fieldAddr 26 (Operand.tmp 4) 0, type := 0, pos := "law.go:18", after := #[{ on := 47, ground := Ground.guard }], guard := some (47, true) }) (v := .pointer (some ⟨w.heap.size, 0, none⟩)) rfl (by kernel_rfl) (by kernel_rfl) (by kernel_rfl) (by rfl) (fun _ _ _ h => h) (Or.inl ⟨by rfl, fun w0 hS0 => ?_⟩) (by assumption) ?_
          · go_simp
          try simp only [Act.put, List.setIfInBounds_toArray, List.set_cons_zero, List.set_cons_succ]
          refine Till.takeA (i := 49) (oi := { dst := some 71, op := Op.load 9 (Operand.tmp 70), type := 9, pos := "law.go:18", after := #[{ on := 48, ground := Ground.data }, { on := 47, ground := Ground.guard }], guard := some (47, true) }) (v := .string x.name) rfl (by kernel_rfl) (by kernel_rfl) (by kernel_rfl) (by rfl) (fun _ _ _ h => h) (Or.inl ⟨by rfl, fun w0 hS0 => ?_⟩) (by assumption) ?_
          · obtain ⟨r0, r1, r2, r3, r4, r5, r6, r7⟩ := HCl.out _ (below_two HB3.out hS0); go_simp
          try simp only [Act.put, List.setIfInBounds_toArray, List.set_cons_zero, List.set_cons_succ]
          refine Till.takeA (i := 50) (oi := { dst := some 72, op := Op.fieldAddr 26 (Operand.tmp 5) 0, type := 0, pos := "law.go:18", after := #[{ on := 47, ground := Ground.guard }], guard := some (47, true) }) (v := .pointer (some ⟨w.heap.size + 1, 0, none⟩)) rfl (by kernel_rfl) (by kernel_rfl) (by kernel_rfl) (by rfl) (fun _ _ _ h => h) (Or.inl ⟨by rfl, fun w0 hS0 => ?_⟩) (by assumption) ?_
          · go_simp
          try simp only [Act.put, List.setIfInBounds_toArray, List.set_cons_zero, List.set_cons_succ]
          refine Till.takeA (i := 51) (oi := { dst := some 73, op := Op.load 9 (Operand.tmp 72), type := 9, pos := "law.go:18", after := #[{ on := 50, ground := Ground.data }, { on := 47, ground := Ground.guard }], guard := some (47, true) }) (v := .string y.name) rfl (by kernel_rfl) (by kernel_rfl) (by kernel_rfl) (by rfl) (fun _ _ _ h => h) (Or.inl ⟨by rfl, fun w0 hS0 => ?_⟩) (by assumption) ?_
          · obtain ⟨r0, r1, r2, r3, r4, r5, r6, r7⟩ := HCl.out _ (below_two HB3.out hS0); go_simp
          try simp only [Act.put, List.setIfInBounds_toArray, List.set_cons_zero, List.set_cons_succ]
          refine Till.takeA (i := 53) (oi := { dst := some 75, op := Op.fieldAddr 26 (Operand.tmp 4) 0, type := 0, pos := "law.go:18", after := #[{ on := 47, ground := Ground.guard }], guard := some (47, true) }) (v := .pointer (some ⟨w.heap.size, 0, none⟩)) rfl (by kernel_rfl) (by kernel_rfl) (by kernel_rfl) (by rfl) (fun _ _ _ h => h) (Or.inl ⟨by rfl, fun w0 hS0 => ?_⟩) (by assumption) ?_
          · go_simp
          try simp only [Act.put, List.setIfInBounds_toArray, List.set_cons_zero, List.set_cons_succ]
          refine Till.takeA (i := 54) (oi := { dst := some 76, op := Op.load 9 (Operand.tmp 75), type := 9, pos := "law.go:18", after := #[{ on := 53, ground := Ground.data }, { on := 47, ground := Ground.guard }], guard := some (47, true) }) (v := .string x.name) rfl (by kernel_rfl) (by kernel_rfl) (by kernel_rfl) (by rfl) (fun _ _ _ h => h) (Or.inl ⟨by rfl, fun w0 hS0 => ?_⟩) (by assumption) ?_
          · obtain ⟨r0, r1, r2, r3, r4, r5, r6, r7⟩ := HCl.out _ (below_two HB3.out hS0); go_simp
          try simp only [Act.put, List.setIfInBounds_toArray, List.set_cons_zero, List.set_cons_succ]
          refine Till.takeA (i := 55) (oi := { dst := some 77, op := Op.fieldAddr 26 (Operand.tmp 5) 0, type := 0, pos := "law.go:18", after := #[{ on := 47, ground := Ground.guard }], guard := some (47, true) }) (v := .pointer (some ⟨w.heap.size + 1, 0, none⟩)) rfl (by kernel_rfl) (by kernel_rfl) (by kernel_rfl) (by rfl) (fun _ _ _ h => h) (Or.inl ⟨by rfl, fun w0 hS0 => ?_⟩) (by assumption) ?_
          · go_simp
          try simp only [Act.put, List.setIfInBounds_toArray, List.set_cons_zero, List.set_cons_succ]
          refine Till.takeA (i := 56) (oi := { dst := some 78, op := Op.load 9 (Operand.tmp 77), type := 9, pos := "law.go:18", after := #[{ on := 55, ground := Ground.data }, { on := 47, ground := Ground.guard }], guard := some (47, true) }) (v := .string y.name) rfl (by kernel_rfl) (by kernel_rfl) (by kernel_rfl) (by rfl) (fun _ _ _ h => h) (Or.inl ⟨by rfl, fun w0 hS0 => ?_⟩) (by assumption) ?_
          · obtain ⟨r0, r1, r2, r3, r4, r5, r6, r7⟩ := HCl.out _ (below_two HB3.out hS0); go_simp
          try simp only [Act.put, List.setIfInBounds_toArray, List.set_cons_zero, List.set_cons_succ]
          refine Till.next (i := 52) (o := { dst := some 74, op := Op.call { callee := Callee.value (Operand.func 15), args := #[Operand.tmp 71, Operand.tmp 73], argTypes := #[9, 9] }, type := 3, pos := "law.go:18", after := #[{ on := 49, ground := Ground.data }, { on := 51, ground := Ground.data }, { on := 47, ground := Ground.chain }, { on := 47, ground := Ground.guard }], guard := some (47, true) }) (by kernel_rfl) rfl (fun K hK => ?_)
          go_simp
          refine (HVp.out _ (below_two HBq.out hHeld7)).mono ?_
          rintro e w8 ⟨rfl, hb⟩
          have hHeld8 : Below w4.heap.size w4 w8 := below_two hHeld7 hb
          clear hb
          go_wp2_with fail
          refine hK.out _ _ (fun _ => hHeld8) ?_
          clear hK K
          try simp only [Act.put, List.setIfInBounds_toArray, List.set_cons_zero, List.set_cons_succ]
          refine Till.next (i := 57) (o := { dst := some 79, op := Op.call { callee := Callee.value (Operand.func 16), args := #[Operand.tmp 76, Operand.tmp 78], argTypes := #[9, 9] }, type := 3, pos := "law.go:18", after := #[{ on := 54, ground := Ground.data }, { on := 56, ground := Ground.data }, { on := 52, ground := Ground.chain }, { on := 47, ground := Ground.guard }], guard := some (47, true) }) (by kernel_rfl) rfl (fun K hK => ?_)
          go_simp
          refine (HVr.out _).mono ?_
          rintro e w9 ⟨rfl, hb⟩
          have hHeld9 : Below w4.heap.size w4 w9 := below_two hHeld8 hb
          clear hb
          go_wp2_with fail
          refine hK.out _ _ (fun _ => hHeld9) ?_
          clear hK K
          try simp only [Act.put, List.setIfInBounds_toArray, List.set_cons_zero, List.set_cons_succ]
          refine Till.takeA (i := 58) (oi := { dst := some 80, op := Op.binOp BinOp.eql 3 (Operand.tmp 74) (Operand.tmp 79) 3, type := 4, pos := "law.go:18", after := #[{ on := 52, ground := Ground.data }, { on := 57, ground := Ground.data }, { on := 47, ground := Ground.guard }], guard := some (47, true) }) (v := .bool true) rfl (by kernel_rfl) (by kernel_rfl) (by kernel_rfl) (by rfl) (fun _ _ _ h => h) (Or.inl ⟨by rfl, fun w0 hS0 => ?_⟩) (by assumption) ?_
          · go_simp
          try simp only [Act.put, List.setIfInBounds_toArray, List.set_cons_zero, List.set_cons_succ]
          refine Till.takeA (i := 59) (oi := { dst := some 81, op := Op.pick (Operand.tmp 69) (Operand.tmp 80) (Operand.const (Value.bool false)), type := 4, pos := "law.go:18", after := #[{ on := 47, ground := Ground.data }, { on := 58, ground := Ground.data }], guard := none }) (v := .bool true) rfl (by kernel_rfl) (by kernel_rfl) (by kernel_rfl) (by rfl) (fun _ _ _ h => h) (Or.inl ⟨by rfl, fun w0 hS0 => ?_⟩) (by assumption) ?_
          · go_simp
          try simp only [Act.put, List.setIfInBounds_toArray, List.set_cons_zero, List.set_cons_succ]
          refine Till.takeA (i := 60) (oi := { dst := some 6, op := Op.assign (Operand.tmp 81), type := 4, pos := "law.go:18", after := #[{ on := 59, ground := Ground.data }, { on := 57, ground := Ground.chain }, { on := 0, ground := Ground.phase }, { on := 1, ground := Ground.phase }, { on := 2, ground := Ground.phase }, { on := 3, ground := Ground.phase }, { on := 4, ground := Ground.phase }, { on := 5, ground := Ground.phase }, { on := 6, ground := Ground.phase }, { on := 7, ground := Ground.phase }, { on := 8, ground := Ground.phase }, { on := 9, ground := Ground.phase }, { on := 10, ground := Ground.phase }, { on := 11, ground := Ground.phase }, { on := 12, ground := Ground.phase }, { on := 13, ground := Ground.phase }, { on := 14, ground := Ground.phase }, { on := 15, ground := Ground.phase }, { on := 16, ground := Ground.phase }, { on := 17, ground := Ground.phase }, { on := 18, ground := Ground.phase }, { on := 19, ground := Ground.phase }, { on := 20, ground := Ground.phase }, { on := 21, ground := Ground.phase }, { on := 22, ground := Ground.phase }, { on := 23, ground := Ground.phase }, { on := 24, ground := Ground.phase }, { on := 25, ground := Ground.phase }, { on := 26, ground := Ground.phase }, { on := 27, ground := Ground.phase }, { on := 28, ground := Ground.phase }, { on := 29, ground := Ground.phase }, { on := 30, ground := Ground.phase }, { on := 31, ground := Ground.phase }, { on := 32, ground := Ground.phase }, { on := 33, ground := Ground.phase }, { on := 34, ground := Ground.phase }, { on := 35, ground := Ground.phase }, { on := 36, ground := Ground.phase }, { on := 37, ground := Ground.phase }, { on := 38, ground := Ground.phase }, { on := 39, ground := Ground.phase }, { on := 40, ground := Ground.phase }, { on := 41, ground := Ground.phase }, { on := 42, ground := Ground.phase }, { on := 43, ground := Ground.phase }, { on := 44, ground := Ground.phase }, { on := 45, ground := Ground.phase }, { on := 46, ground := Ground.phase }, { on := 47, ground := Ground.phase }, { on := 48, ground := Ground.phase }, { on := 49, ground := Ground.phase }, { on := 50, ground := Ground.phase }, { on := 51, ground := Ground.phase }, { on := 52, ground := Ground.phase }, { on := 53, ground := Ground.phase }, { on := 54, ground := Ground.phase }, { on := 55, ground := Ground.phase }, { on := 56, ground := Ground.phase }, { on := 57, ground := Ground.phase }, { on := 58, ground := Ground.phase }, { on := 59, ground := Ground.phase }], guard := none }) (v := .bool true) rfl (by kernel_rfl) (by kernel_rfl) (by kernel_rfl) (by rfl) (fun _ _ _ h => h) (Or.inl ⟨by rfl, fun w0 hS0 => ?_⟩) (by assumption) ?_
          · go_simp
          try simp only [Act.put, List.setIfInBounds_toArray, List.set_cons_zero, List.set_cons_succ]
          refine Till.done (by kernel_rfl) ?_
-- TILL 42 END
          go_wp2
          go_ret
          exact ⟨rfl, below_two HBq.out hHeld9⟩
        · have HSq := Lib.hid (show (x.size == y.size) = false from beq_eq_false_iff_ne.2 hs)
          have HZq := Lib.hid (show (C == 0) = false from beq_eq_false_iff_ne.2 (fun z => hs ((HIf.out.1 z).2.1 o1)))
          clear hne o1 hs
-- TILL 43
          refine Till.region (z := 1000) (S := fun w' => Below w4.heap.size w4 w') (by kernel_rfl) ((Below.refl _ _).drew) (fun hHeld => ?_)
          refine Till.takeA (i := 0) (oi := { dst := some 22, op := Op.move (Operand.tmp 7), type := 3, pos := "law.go:18", after := #[], guard := none }) (v := .int .i64 C) rfl (by kernel_rfl) (by kernel_rfl) (by kernel_rfl) (by rfl) (fun _ _ _ h => h) (Or.inl ⟨by rfl, fun w0 hS0 => ?_⟩) (by assumption) ?_
          · go_simp
          try simp only [Act.put, List.setIfInBounds_toArray, List.set_cons_zero, List.set_cons_succ]
          refine Till.takeA (i := 1) (oi := { dst := some 23, op := Op.move (Operand.tmp 0), type := 3, pos := "law.go:18", after := #[], guard := none }) (v := .int .i64 o) rfl (by kernel_rfl) (by kernel_rfl) (by kernel_rfl) (by rfl) (fun _ _ _ h => h) (Or.inl ⟨by rfl, fun w0 hS0 => ?_⟩) (by assumption) ?_
          · go_simp
          try simp only [Act.put, List.setIfInBounds_toArray, List.set_cons_zero, List.set_cons_succ]
          refine Till.takeA (i := 2) (oi := { dst := some 24, op := Op.load 26 (Operand.tmp 4), type := 26, pos := "law.go:18", after := #[], guard := none }) (v := .agg #[.string x.name, .int .i64 x.size, .int .i64 x.time, .bool x.dir]) rfl (by kernel_rfl) (by kernel_rfl) (by kernel_rfl) (by rfl) (fun _ _ _ h => h) (Or.inl ⟨by rfl, fun w0 hS0 => ?_⟩) (by assumption) ?_
          · obtain ⟨r0, r1, r2, r3, r4, r5, r6, r7⟩ := HCl.out _ (below_two HB3.out hS0); go_simp
          try simp only [Act.put, List.setIfInBounds_toArray, List.set_cons_zero, List.set_cons_succ]
          refine Till.takeA (i := 3) (oi := { dst := some 25, op := Op.load 26 (Operand.tmp 5), type := 26, pos := "law.go:18", after := #[], guard := none }) (v := .agg #[.string y.name, .int .i64 y.size, .int .i64 y.time, .bool y.dir]) rfl (by kernel_rfl) (by kernel_rfl) (by kernel_rfl) (by rfl) (fun _ _ _ h => h) (Or.inl ⟨by rfl, fun w0 hS0 => ?_⟩) (by assumption) ?_
          · obtain ⟨r0, r1, r2, r3, r4, r5, r6, r7⟩ := HCl.out _ (below_two HB3.out hS0); go_simp
          try simp only [Act.put, List.setIfInBounds_toArray, List.set_cons_zero, List.set_cons_succ]
          refine Till.next (i := 4) (o := { dst := some 26, op := Op.call { callee := Callee.value (Operand.func 12), args := #[Operand.tmp 23, Operand.tmp 24, Operand.tmp 25], argTypes := #[3, 26, 26] }, type := 3, pos := "law.go:18", after := #[{ on := 1, ground := Ground.data }, { on := 2, ground := Ground.data }, { on := 3, ground := Ground.data }], guard := none }) (by kernel_rfl) rfl (fun K hK => ?_)
          go_simp
          refine (HRc.out _).mono ?_
          rintro e w5 ⟨rfl, hb⟩
          have hHeld5 : Below w4.heap.size w4 w5 := below_two hHeld hb
          clear hb
          go_wp2_with fail
          refine hK.out _ _ (fun _ => hHeld5) ?_
          clear hK K
          try simp only [Act.put, List.setIfInBounds_toArray, List.set_cons_zero, List.set_cons_succ]
          refine Till.takeA (i := 5) (oi := { dst := some 27, op := Op.binOp BinOp.eql 3 (Operand.tmp 22) (Operand.tmp 26) 3, type := 4, pos := "law.go:18", after := #[{ on := 0, ground := Ground.data }, { on := 4, ground := Ground.data }], guard := none }) (v := .bool true) rfl (by kernel_rfl) (by kernel_rfl) (by kernel_rfl) (by rfl) (fun _ _ _ h => h) (Or.inl ⟨by rfl, fun w0 hS0 => ?_⟩) (by assumption) ?_
          · go_simp
          try simp only [Act.put, List.setIfInBounds_toArray, List.set_cons_zero, List.set_cons_succ]
          refine Till.takeA (i := 6) (oi := { dst := some 28, op := Op.move (Operand.tmp 27), type := 4, pos := "law.go:18", after := #[{ on := 5, ground := Ground.data }, { on := 4, ground := Ground.chain }], guard := none }) (v := .bool true) rfl (by kernel_rfl) (by kernel_rfl) (by kernel_rfl) (by rfl) (fun _ _ _ h => h) (Or.inl ⟨by rfl, fun w0 hS0 => ?_⟩) (by assumption) ?_
          · go_simp
          try simp only [Act.put, List.setIfInBounds_toArray, List.set_cons_zero, List.set_cons_succ]
          refine Till.takeA (i := 7) (oi := { dst := some 29, op := Op.move (Operand.tmp 7), type := 3, pos := "law.go:18", after := #[{ on := 6, ground := Ground.guard }], guard := some (6, true) }) (v := .int .i64 C) rfl (by kernel_rfl) (by kernel_rfl) (by kernel_rfl) (by rfl) (fun _ _ _ h => h) (Or.inl ⟨by rfl, fun w0 hS0 => ?_⟩) (by assumption) ?_
          · go_simp
          try simp only [Act.put, List.setIfInBounds_toArray, List.set_cons_zero, List.set_cons_succ]
          refine Till.takeA (i := 8) (oi := { dst := some 30, op := Op.binOp BinOp.eql 3 (Operand.tmp 29) (Operand.const (Value.int IntKind.i64 0)) 3, type := 4, pos := "law.go:18", after := #[{ on := 7, ground := Ground.data }, { on := 6, ground := Ground.guard }], guard := some (6, true) }) (v := .bool false) rfl (by kernel_rfl) (by kernel_rfl) (by kernel_rfl) (by rfl) (fun _ _ _ h => h) (Or.inl ⟨by rfl, fun w0 hS0 => ?_⟩) (by assumption) ?_
          · have hq := HZq.out; go_simp
          try simp only [Act.put, List.setIfInBounds_toArray, List.set_cons_zero, List.set_cons_succ]
          refine Till.takeA (i := 9) (oi := { dst := some 31, op := Op.fieldAddr 26 (Operand.tmp 4) 0, type := 0, pos := "law.go:18", after := #[{ on := 6, ground := Ground.guard }], guard := some (6, true) }) (v := .pointer (some ⟨w.heap.size, 0, none⟩)) rfl (by kernel_rfl) (by kernel_rfl) (by kernel_rfl) (by rfl) (fun _ _ _ h => h) (Or.inl ⟨by rfl, fun w0 hS0 => ?_⟩) (by assumption) ?_
          · go_simp
          try simp only [Act.put, List.setIfInBounds_toArray, List.set_cons_zero, List.set_cons_succ]
          refine Till.takeA (i := 10) (oi := { dst := some 32, op := Op.load 9 (Operand.tmp 31), type := 9, pos := "law.go:18", after := #[{ on := 9, ground := Ground.data }, { on := 6, ground := Ground.guard }], guard := some (6, true) }) (v := .string x.name) rfl (by kernel_rfl) (by kernel_rfl) (by kernel_rfl) (by rfl) (fun _ _ _ h => h) (Or.inl ⟨by rfl, fun w0 hS0 => ?_⟩) (by assumption) ?_
          · obtain ⟨r0, r1, r2, r3, r4, r5, r6, r7⟩ := HCl.out _ (below_two HB3.out hS0); go_simp
          try simp only [Act.put, List.setIfInBounds_toArray, List.set_cons_zero, List.set_cons_succ]
          refine Till.takeA (i := 11) (oi := { dst := some 33, op := Op.fieldAddr 26 (Operand.tmp 5) 0, type := 0, pos := "law.go:18", after := #[{ on := 6, ground := Ground.guard }], guard := some (6, true) }) (v := .pointer (some ⟨w.heap.size + 1, 0, none⟩)) rfl (by kernel_rfl) (by kernel_rfl) (by kernel_rfl) (by rfl) (fun _ _ _ h => h) (Or.inl ⟨by rfl, fun w0 hS0 => ?_⟩) (by assumption) ?_
          · go_simp
          try simp only [Act.put, List.setIfInBounds_toArray, List.set_cons_zero, List.set_cons_succ]
          refine Till.takeA (i := 12) (oi := { dst := some 34, op := Op.load 9 (Operand.tmp 33), type := 9, pos := "law.go:18", after := #[{ on := 11, ground := Ground.data }, { on := 6, ground := Ground.guard }], guard := some (6, true) }) (v := .string y.name) rfl (by kernel_rfl) (by kernel_rfl) (by kernel_rfl) (by rfl) (fun _ _ _ h => h) (Or.inl ⟨by rfl, fun w0 hS0 => ?_⟩) (by assumption) ?_
          · obtain ⟨r0, r1, r2, r3, r4, r5, r6, r7⟩ := HCl.out _ (below_two HB3.out hS0); go_simp
          try simp only [Act.put, List.setIfInBounds_toArray, List.set_cons_zero, List.set_cons_succ]
          refine Till.takeA (i := 13) (oi := { dst := some 35, op := Op.binOp BinOp.eql 9 (Operand.tmp 32) (Operand.tmp 34) 9, type := 4, pos := "law.go:18", after := #[{ on := 10, ground := Ground.data }, { on := 12, ground := Ground.data }, { on := 6, ground := Ground.guard }], guard := some (6, true) }) (v := .bool true) rfl (by kernel_rfl) (by kernel_rfl) (by kernel_rfl) (by rfl) (fun _ _ _ h => h) (Or.inl ⟨by rfl, fun w0 hS0 => ?_⟩) (by assumption) ?_
          · obtain ⟨hq1, hq2, hq3⟩ := HNq.out; go_simp
          try simp only [Act.put, List.setIfInBounds_toArray, List.set_cons_zero, List.set_cons_succ]
          refine Till.takeA (i := 14) (oi := { dst := some 36, op := Op.move (Operand.tmp 35), type := 4, pos := "law.go:18", after := #[{ on := 13, ground := Ground.data }, { on := 6, ground := Ground.chain }, { on := 6, ground := Ground.guard }], guard := some (6, true) }) (v := .bool true) rfl (by kernel_rfl) (by kernel_rfl) (by kernel_rfl) (by rfl) (fun _ _ _ h => h) (Or.inl ⟨by rfl, fun w0 hS0 => ?_⟩) (by assumption) ?_
          · go_simp
          try simp only [Act.put, List.setIfInBounds_toArray, List.set_cons_zero, List.set_cons_succ]
          refine Till.takeA (i := 15) (oi := { dst := some 37, op := Op.move (Operand.tmp 0), type := 3, pos := "law.go:18", after := #[{ on := 14, ground := Ground.guard }], guard := some (14, true) }) (v := .int .i64 o) rfl (by kernel_rfl) (by kernel_rfl) (by kernel_rfl) (by rfl) (fun _ _ _ h => h) (Or.inl ⟨by rfl, fun w0 hS0 => ?_⟩) (by assumption) ?_
          · go_simp
          try simp only [Act.put, List.setIfInBounds_toArray, List.set_cons_zero, List.set_cons_succ]
          refine Till.takeA (i := 16) (oi := { dst := some 38, op := Op.binOp BinOp.neq 3 (Operand.tmp 37) (Operand.const (Value.int IntKind.i64 1)) 3, type := 4, pos := "law.go:18", after := #[{ on := 15, ground := Ground.data }, { on := 14, ground := Ground.guard }], guard := some (14, true) }) (v := .bool false) rfl (by kernel_rfl) (by kernel_rfl) (by kernel_rfl) (by rfl) (fun _ _ _ h => h) (Or.inl ⟨by rfl, fun w0 hS0 => ?_⟩) (by assumption) ?_
          · have hq := HO1.out; go_simp
          try simp only [Act.put, List.setIfInBounds_toArray, List.set_cons_zero, List.set_cons_succ]
          refine Till.takeA (i := 17) (oi := { dst := some 39, op := Op.move (Operand.tmp 38), type := 4, pos := "law.go:18", after := #[{ on := 16, ground := Ground.data }, { on := 14, ground := Ground.chain }, { on := 14, ground := Ground.guard }], guard := some (14, true) }) (v := .bool false) rfl (by kernel_rfl) (by kernel_rfl) (by kernel_rfl) (by rfl) (fun _ _ _ h => h) (Or.inl ⟨by rfl, fun w0 hS0 => ?_⟩) (by assumption) ?_
          · go_simp
          try simp only [Act.put, List.setIfInBounds_toArray, List.set_cons_zero, List.set_cons_succ]
          refine Till.takeA (i := 18) (oi := { dst := some 40, op := Op.fieldAddr 26 (Operand.tmp 4) 1, type := 0, pos := "law.go:18", after := #[{ on := 17, ground := Ground.guard }], guard := some (17, false) }) (v := .pointer (some ⟨w.heap.size, 1, none⟩)) rfl (by kernel_rfl) (by kernel_rfl) (by kernel_rfl) (by rfl) (fun _ _ _ h => h) (Or.inl ⟨by rfl, fun w0 hS0 => ?_⟩) (by assumption) ?_
          · go_simp
          try simp only [Act.put, List.setIfInBounds_toArray, List.set_cons_zero, List.set_cons_succ]
          refine Till.takeA (i := 19) (oi := { dst := some 41, op := Op.load 2 (Operand.tmp 40), type := 2, pos := "law.go:18", after := #[{ on := 18, ground := Ground.data }, { on := 17, ground := Ground.guard }], guard := some (17, false) }) (v := .int .i64 x.size) rfl (by kernel_rfl) (by kernel_rfl) (by kernel_rfl) (by rfl) (fun _ _ _ h => h) (Or.inl ⟨by rfl, fun w0 hS0 => ?_⟩) (by assumption) ?_
          · obtain ⟨r0, r1, r2, r3, r4, r5, r6, r7⟩ := HCl.out _ (below_two HB3.out hS0); go_simp
          try simp only [Act.put, List.setIfInBounds_toArray, List.set_cons_zero, List.set_cons_succ]
          refine Till.takeA (i := 20) (oi := { dst := some 42, op := Op.fieldAddr 26 (Operand.tmp 5) 1, type := 0, pos := "law.go:18", after := #[{ on := 17, ground := Ground.guard }], guard := some (17, false) }) (v := .pointer (some ⟨w.heap.size + 1, 1, none⟩)) rfl (by kernel_rfl) (by kernel_rfl) (by kernel_rfl) (by rfl) (fun _ _ _ h => h) (Or.inl ⟨by rfl, fun w0 hS0 => ?_⟩) (by assumption) ?_
          · go_simp
          try simp only [Act.put, List.setIfInBounds_toArray, List.set_cons_zero, List.set_cons_succ]
          refine Till.takeA (i := 21) (oi := { dst := some 43, op := Op.load 2 (Operand.tmp 42), type := 2, pos := "law.go:18", after := #[{ on := 20, ground := Ground.data }, { on := 17, ground := Ground.guard }], guard := some (17, false) }) (v := .int .i64 y.size) rfl (by kernel_rfl) (by kernel_rfl) (by kernel_rfl) (by rfl) (fun _ _ _ h => h) (Or.inl ⟨by rfl, fun w0 hS0 => ?_⟩) (by assumption) ?_
          · obtain ⟨r0, r1, r2, r3, r4, r5, r6, r7⟩ := HCl.out _ (below_two HB3.out hS0); go_simp
          try simp only [Act.put, List.setIfInBounds_toArray, List.set_cons_zero, List.set_cons_succ]
          refine Till.takeA (i := 22) (oi := { dst := some 44, op := Op.binOp BinOp.eql 2 (Operand.tmp 41) (Operand.tmp 43) 2, type := 4, pos := "law.go:18", after := #[{ on := 19, ground := Ground.data }, { on := 21, ground := Ground.data }, { on := 17, ground := Ground.guard }], guard := some (17, false) }) (v := .bool false) rfl (by kernel_rfl) (by kernel_rfl) (by kernel_rfl) (by rfl) (fun _ _ _ h => h) (Or.inl ⟨by rfl, fun w0 hS0 => ?_⟩) (by assumption) ?_
          · have hq := HSq.out; go_simp
          try simp only [Act.put, List.setIfInBounds_toArray, List.set_cons_zero, List.set_cons_succ]
          refine Till.takeA (i := 23) (oi := { dst := some 45, op := Op.pick (Operand.tmp 39) (Operand.const (Value.bool true)) (Operand.tmp 44), type := 4, pos := "law.go:18", after := #[{ on := 17, ground := Ground.data }, { on := 22, ground := Ground.data }, { on := 14, ground := Ground.guard }], guard := some (14, true) }) (v := .bool false) rfl (by kernel_rfl) (by kernel_rfl) (by kernel_rfl) (by rfl) (fun _ _ _ h => h) (Or.inl ⟨by rfl, fun w0 hS0 => ?_⟩) (by assumption) ?_
          · go_simp
          try simp only [Act.put, List.setIfInBounds_toArray, List.set_cons_zero, List.set_cons_succ]
          refine Till.takeA (i := 24) (oi := { dst := some 46, op := Op.pick (Operand.tmp 36) (Operand.tmp 45) (Operand.const (Value.bool false)), type := 4, pos := "law.go:18", after := #[{ on := 14, ground := Ground.data }, { on := 23, ground := Ground.data }, { on := 6, ground := Ground.guard }], guard := some (6, true) }) (v := .bool false) rfl (by kernel_rfl) (by kernel_rfl) (by kernel_rfl) (by rfl) (fun _ _ _ h => h) (Or.inl ⟨by rfl, fun w0 hS0 => ?_⟩) (by assumption) ?_
          · go_simp
          try simp only [Act.put, List.setIfInBounds_toArray, List.set_cons_zero, List.set_cons_succ]
          refine Till.takeA (i := 25) (oi := { dst := some 47, op := Op.move (Operand.tmp 46), type := 4, pos := "law.go:18", after := #[{ on := 24, ground := Ground.data }, { on := 17, ground := Ground.chain }, { on := 6, ground := Ground.guard }], guard := some (6, true) }) (v := .bool false) rfl (by kernel_rfl) (by kernel_rfl) (by kernel_rfl) (by rfl) (fun _ _ _ h => h) (Or.inl ⟨by rfl, fun w0 hS0 => ?_⟩) (by assumption) ?_
          · go_simp
          try simp only [Act.put, List.setIfInBounds_toArray, List.set_cons_zero, List.set_cons_succ]
          refine Till.takeA (i := 26) (oi := { dst := some 48, op := Op.move (Operand.tmp 0), type := 3, pos := "law.go:18", after := #[{ on := 25, ground := Ground.guard }], guard := some (25, true) }) (v := undef) rfl (by kernel_rfl) (by kernel_rfl) (by kernel_rfl) (by rfl) (fun _ _ _ h => h) (Or.inr ⟨by rfl, rfl⟩) (by assumption) ?_
          try simp only [Act.put, List.setIfInBounds_toArray, List.set_cons_zero, List.set_cons_succ]
          refine Till.takeA (i := 27) (oi := { dst := some 49, op := Op.binOp BinOp.neq 3 (Operand.tmp 48) (Operand.const (Value.int IntKind.i64 2)) 3, type := 4, pos := "law.go:18", after := #[{ on := 26, ground := Ground.data }, { on := 25, ground := Ground.guard }], guard := some (25, true) }) (v := undef) rfl (by kernel_rfl) (by kernel_rfl) (by kernel_rfl) (by rfl) (fun _ _ _ h => h) (Or.inr ⟨by rfl, rfl⟩) (by assumption) ?_
          try simp only [Act.put, List.setIfInBounds_toArray, List.set_cons_zero, List.set_cons_succ]
          refine Till.takeA (i := 28) (oi := { dst := some 50, op := Op.move (Operand.tmp 49), type := 4, pos := "law.go:18", after := #[{ on := 27, ground := Ground.data }, { on := 25, ground := Ground.chain }, { on := 25, ground := Ground.guard }], guard := some (25, true) }) (v := undef) rfl (by kernel_rfl) (by kernel_rfl) (by kernel_rfl) (by rfl) (fun _ _ _ h => h) (Or.inr ⟨by rfl, rfl⟩) (by assumption) ?_
          try simp only [Act.put, List.setIfInBounds_toArray, List.set_cons_zero, List.set_cons_succ]
          refine Till.takeA (i := 29) (oi := { dst := some 51, op := Op.fieldAddr 26 (Operand.tmp 4) 2, type := 0, pos := "law.go:18", after := #[{ on := 28, ground := Ground.guard }], guard := some (28, false) }) (v := undef) rfl (by kernel_rfl) (by kernel_rfl) (by kernel_rfl) (by rfl) (fun _ _ _ h => h) (Or.inr ⟨by rfl, rfl⟩) (by assumption) ?_
          try simp only [Act.put, List.setIfInBounds_toArray, List.set_cons_zero, List.set_cons_succ]
          refine Till.takeA (i := 30) (oi := { dst := some 52, op := Op.load 2 (Operand.tmp 51), type := 2, pos := "law.go:18", after := #[{ on := 29, ground := Ground.data }, { on := 28, ground := Ground.guard }], guard := some (28, false) }) (v := undef) rfl (by kernel_rfl) (by kernel_rfl) (by kernel_rfl) (by rfl) (fun _ _ _ h => h) (Or.inr ⟨by rfl, rfl⟩) (by assumption) ?_
          try simp only [Act.put, List.setIfInBounds_toArray, List.set_cons_zero, List.set_cons_succ]
          refine Till.takeA (i := 31) (oi := { dst := some 53, op := Op.fieldAddr 26 (Operand.tmp 5) 2, type := 0, pos := "law.go:18", after := #[{ on := 28, ground := Ground.guard }], guard := some (28, false) }) (v := undef) rfl (by kernel_rfl) (by kernel_rfl) (by kernel_rfl) (by rfl) (fun _ _ _ h => h) (Or.inr ⟨by rfl, rfl⟩) (by assumption) ?_
          try simp only [Act.put, List.setIfInBounds_toArray, List.set_cons_zero, List.set_cons_succ]
          refine Till.takeA (i := 32) (oi := { dst := some 54, op := Op.load 2 (Operand.tmp 53), type := 2, pos := "law.go:18", after := #[{ on := 31, ground := Ground.data }, { on := 28, ground := Ground.guard }], guard := some (28, false) }) (v := undef) rfl (by kernel_rfl) (by kernel_rfl) (by kernel_rfl) (by rfl) (fun _ _ _ h => h) (Or.inr ⟨by rfl, rfl⟩) (by assumption) ?_
          try simp only [Act.put, List.setIfInBounds_toArray, List.set_cons_zero, List.set_cons_succ]
          refine Till.takeA (i := 33) (oi := { dst := some 55, op := Op.binOp BinOp.eql 2 (Operand.tmp 52) (Operand.tmp 54) 2, type := 4, pos := "law.go:18", after := #[{ on := 30, ground := Ground.data }, { on := 32, ground := Ground.data }, { on := 28, ground := Ground.guard }], guard := some (28, false) }) (v := undef) rfl (by kernel_rfl) (by kernel_rfl) (by kernel_rfl) (by rfl) (fun _ _ _ h => h) (Or.inr ⟨by rfl, rfl⟩) (by assumption) ?_
          try simp only [Act.put, List.setIfInBounds_toArray, List.set_cons_zero, List.set_cons_succ]
          refine Till.takeA (i := 34) (oi := { dst := some 56, op := Op.pick (Operand.tmp 50) (Operand.const (Value.bool true)) (Operand.tmp 55), type := 4, pos := "law.go:18", after := #[{ on := 28, ground := Ground.data }, { on := 33, ground := Ground.data }, { on := 25, ground := Ground.guard }], guard := some (25, true) }) (v := undef) rfl (by kernel_rfl) (by kernel_rfl) (by kernel_rfl) (by rfl) (fun _ _ _ h => h) (Or.inr ⟨by rfl, rfl⟩) (by assumption) ?_
          try simp only [Act.put, List.setIfInBounds_toArray, List.set_cons_zero, List.set_cons_succ]
          refine Till.takeA (i := 35) (oi := { dst := some 57, op := Op.pick (Operand.tmp 47) (Operand.tmp 56) (Operand.const (Value.bool false)), type := 4, pos := "law.go:18", after := #[{ on := 25, ground := Ground.data }, { on := 34, ground := Ground.data }, { on := 6, ground := Ground.guard }], guard := some (6, true) }) (v := .bool false) rfl (by kernel_rfl) (by kernel_rfl) (by kernel_rfl) (by rfl) (fun _ _ _ h => h) (Or.inl ⟨by rfl, fun w0 hS0 => ?_⟩) (by assumption) ?_
          · go_simp
          try simp only [Act.put, List.setIfInBounds_toArray, List.set_cons_zero, List.set_cons_succ]
          refine Till.takeA (i := 36) (oi := { dst := some 58, op := Op.binOp BinOp.eql 4 (Operand.tmp 30) (Operand.tmp 57) 4, type := 4, pos := "law.go:18", after := #[{ on := 8, ground := Ground.data }, { on := 35, ground := Ground.data }, { on := 6, ground := Ground.guard }], guard := some (6, true) }) (v := .bool true) rfl (by kernel_rfl) (by kernel_rfl) (by kernel_rfl) (by rfl) (fun _ _ _ h => h) (Or.inl ⟨by rfl, fun w0 hS0 => ?_⟩) (by assumption) ?_
          · go_simp
          try simp only [Act.put, List.setIfInBounds_toArray, List.set_cons_zero, List.set_cons_succ]
          refine Till.takeA (i := 37) (oi := { dst := some 59, op := Op.pick (Operand.tmp 28) (Operand.tmp 58) (Operand.const (Value.bool false)), type := 4, pos := "law.go:18", after := #[{ on := 6, ground := Ground.data }, { on := 36, ground := Ground.data }], guard := none }) (v := .bool true) rfl (by kernel_rfl) (by kernel_rfl) (by kernel_rfl) (by rfl) (fun _ _ _ h => h) (Or.inl ⟨by rfl, fun w0 hS0 => ?_⟩) (by assumption) ?_
          · go_simp
          try simp only [Act.put, List.setIfInBounds_toArray, List.set_cons_zero, List.set_cons_succ]
          refine Till.takeA (i := 38) (oi := { dst := some 60, op := Op.move (Operand.tmp 59), type := 4, pos := "law.go:18", after := #[{ on := 37, ground := Ground.data }, { on := 28, ground := Ground.chain }], guard := none }) (v := .bool true) rfl (by kernel_rfl) (by kernel_rfl) (by kernel_rfl) (by rfl) (fun _ _ _ h => h) (Or.inl ⟨by rfl, fun w0 hS0 => ?_⟩) (by assumption) ?_
          · go_simp
          try simp only [Act.put, List.setIfInBounds_toArray, List.set_cons_zero, List.set_cons_succ]
          refine Till.takeA (i := 39) (oi := { dst := some 61, op := Op.fieldAddr 26 (Operand.tmp 4) 0, type := 0, pos := "law.go:18", after := #[{ on := 38, ground := Ground.guard }], guard := some (38, true) }) (v := .pointer (some ⟨w.heap.size, 0, none⟩)) rfl (by kernel_rfl) (by kernel_rfl) (by kernel_rfl) (by rfl) (fun _ _ _ h => h) (Or.inl ⟨by rfl, fun w0 hS0 => ?_⟩) (by assumption) ?_
          · go_simp
          try simp only [Act.put, List.setIfInBounds_toArray, List.set_cons_zero, List.set_cons_succ]
          refine Till.takeA (i := 40) (oi := { dst := some 62, op := Op.load 9 (Operand.tmp 61), type := 9, pos := "law.go:18", after := #[{ on := 39, ground := Ground.data }, { on := 38, ground := Ground.guard }], guard := some (38, true) }) (v := .string x.name) rfl (by kernel_rfl) (by kernel_rfl) (by kernel_rfl) (by rfl) (fun _ _ _ h => h) (Or.inl ⟨by rfl, fun w0 hS0 => ?_⟩) (by assumption) ?_
          · obtain ⟨r0, r1, r2, r3, r4, r5, r6, r7⟩ := HCl.out _ (below_two HB3.out hS0); go_simp
          try simp only [Act.put, List.setIfInBounds_toArray, List.set_cons_zero, List.set_cons_succ]
          refine Till.takeA (i := 42) (oi := { dst := some 64, op := Op.fieldAddr 26 (Operand.tmp 4) 0, type := 0, pos := "law.go:18", after := #[{ on := 38, ground := Ground.guard }], guard := some (38, true) }) (v := .pointer (some ⟨w.heap.size, 0, none⟩)) rfl (by kernel_rfl) (by kernel_rfl) (by kernel_rfl) (by rfl) (fun _ _ _ h => h) (Or.inl ⟨by rfl, fun w0 hS0 => ?_⟩) (by assumption) ?_
          · go_simp
          try simp only [Act.put, List.setIfInBounds_toArray, List.set_cons_zero, List.set_cons_succ]
          refine Till.takeA (i := 43) (oi := { dst := some 65, op := Op.load 9 (Operand.tmp 64), type := 9, pos := "law.go:18", after := #[{ on := 42, ground := Ground.data }, { on := 38, ground := Ground.guard }], guard := some (38, true) }) (v := .string x.name) rfl (by kernel_rfl) (by kernel_rfl) (by kernel_rfl) (by rfl) (fun _ _ _ h => h) (Or.inl ⟨by rfl, fun w0 hS0 => ?_⟩) (by assumption) ?_
          · obtain ⟨r0, r1, r2, r3, r4, r5, r6, r7⟩ := HCl.out _ (below_two HB3.out hS0); go_simp
          try simp only [Act.put, List.setIfInBounds_toArray, List.set_cons_zero, List.set_cons_succ]
          refine Till.next (i := 41) (o := { dst := some 63, op := Op.call { callee := Callee.value (Operand.func 13), args := #[Operand.tmp 62], argTypes := #[9] }, type := 9, pos := "law.go:18", after := #[{ on := 40, ground := Ground.data }, { on := 38, ground := Ground.chain }, { on := 38, ground := Ground.guard }], guard := some (38, true) }) (by kernel_rfl) rfl (fun K hK => ?_)
          go_simp
          refine (HEp.out _ (below_two HBq.out hHeld5)).mono ?_
          rintro e w6 ⟨rfl, hb⟩
          have hHeld6 : Below w4.heap.size w4 w6 := below_two hHeld5 hb
          clear hb
          go_wp2_with fail
          refine hK.out _ _ (fun _ => hHeld6) ?_
          clear hK K
          try simp only [Act.put, List.setIfInBounds_toArray, List.set_cons_zero, List.set_cons_succ]
          refine Till.next (i := 44) (o := { dst := some 66, op := Op.call { callee := Callee.value (Operand.func 14), args := #[Operand.tmp 65], argTypes := #[9] }, type := 9, pos := "law.go:18", after := #[{ on := 43, ground := Ground.data }, { on := 41, ground := Ground.chain }, { on := 38, ground := Ground.guard }], guard := some (38, true) }) (by kernel_rfl) rfl (fun K hK => ?_)
          go_simp
          refine (HEr.out _).mono ?_
          rintro e w7 ⟨rfl, hb⟩
          have hHeld7 : Below w4.heap.size w4 w7 := by rw [← hb]; exact hHeld6
          clear hb
          go_wp2_with fail
          refine hK.out _ _ (fun _ => hHeld7) ?_
          clear hK K
          try simp only [Act.put, List.setIfInBounds_toArray, List.set_cons_zero, List.set_cons_succ]
          refine Till.takeA (i := 45) (oi := { dst := some 67, op := Op.binOp BinOp.eql 9 (Operand.tmp 63) (Operand.tmp 66) 9, type := 4, pos := "law.go:18", after := #[{ on := 41, ground := Ground.data }, { on := 44, ground := Ground.data }, { on := 38, ground := Ground.guard }], guard := some (38, true) }) (v := .bool true) rfl (by kernel_rfl) (by kernel_rfl) (by kernel_rfl) (by rfl) (fun _ _ _ h => h) (Or.inl ⟨by rfl, fun w0 hS0 => ?_⟩) (by assumption) ?_
          · go_simp
          try simp only [Act.put, List.setIfInBounds_toArray, List.set_cons_zero, List.set_cons_succ]
          refine Till.takeA (i := 46) (oi := { dst := some 68, op := Op.pick (Operand.tmp 60) (Operand.tmp 67) (Operand.const (Value.bool false)), type := 4, pos := "law.go:18", after := #[{ on := 38, ground := Ground.data }, { on := 45, ground := Ground.data }], guard := none }) (v := .bool true) rfl (by kernel_rfl) (by kernel_rfl) (by kernel_rfl) (by rfl) (fun _ _ _ h => h) (Or.inl ⟨by rfl, fun w0 hS0 => ?_⟩) (by assumption) ?_
          · go_simp
          try simp only [Act.put, List.setIfInBounds_toArray, List.set_cons_zero, List.set_cons_succ]
          refine Till.takeA (i := 47) (oi := { dst := some 69, op := Op.move (Operand.tmp 68), type := 4, pos := "law.go:18", after := #[{ on := 46, ground := Ground.data }, { on := 44, ground := Ground.chain }], guard := none }) (v := .bool true) rfl (by kernel_rfl) (by kernel_rfl) (by kernel_rfl) (by rfl) (fun _ _ _ h => h) (Or.inl ⟨by rfl, fun w0 hS0 => ?_⟩) (by assumption) ?_
          · go_simp
          try simp only [Act.put, List.setIfInBounds_toArray, List.set_cons_zero, List.set_cons_succ]
          refine Till.takeA (i := 48) (oi := { dst := some 70, op := Op.fieldAddr 26 (Operand.tmp 4) 0, type := 0, pos := "law.go:18", after := #[{ on := 47, ground := Ground.guard }], guard := some (47, true) }) (v := .pointer (some ⟨w.heap.size, 0, none⟩)) rfl (by kernel_rfl) (by kernel_rfl) (by kernel_rfl) (by rfl) (fun _ _ _ h => h) (Or.inl ⟨by rfl, fun w0 hS0 => ?_⟩) (by assumption) ?_
          · go_simp
          try simp only [Act.put, List.setIfInBounds_toArray, List.set_cons_zero, List.set_cons_succ]
          refine Till.takeA (i := 49) (oi := { dst := some 71, op := Op.load 9 (Operand.tmp 70), type := 9, pos := "law.go:18", after := #[{ on := 48, ground := Ground.data }, { on := 47, ground := Ground.guard }], guard := some (47, true) }) (v := .string x.name) rfl (by kernel_rfl) (by kernel_rfl) (by kernel_rfl) (by rfl) (fun _ _ _ h => h) (Or.inl ⟨by rfl, fun w0 hS0 => ?_⟩) (by assumption) ?_
          · obtain ⟨r0, r1, r2, r3, r4, r5, r6, r7⟩ := HCl.out _ (below_two HB3.out hS0); go_simp
          try simp only [Act.put, List.setIfInBounds_toArray, List.set_cons_zero, List.set_cons_succ]
          refine Till.takeA (i := 50) (oi := { dst := some 72, op := Op.fieldAddr 26 (Operand.tmp 5) 0, type := 0, pos := "law.go:18", after := #[{ on := 47, ground := Ground.guard }], guard := some (47, true) }) (v := .pointer (some ⟨w.heap.size + 1, 0, none⟩)) rfl (by kernel_rfl) (by kernel_rfl) (by kernel_rfl) (by rfl) (fun _ _ _ h => h) (Or.inl ⟨by rfl, fun w0 hS0 => ?_⟩) (by assumption) ?_
          · go_simp
          try simp only [Act.put, List.setIfInBounds_toArray, List.set_cons_zero, List.set_cons_succ]
          refine Till.takeA (i := 51) (oi := { dst := some 73, op := Op.load 9 (Operand.tmp 72), type := 9, pos := "law.go:18", after := #[{ on := 50, ground := Ground.data }, { on := 47, ground := Ground.guard }], guard := some (47, true) }) (v := .string y.name) rfl (by kernel_rfl) (by kernel_rfl) (by kernel_rfl) (by rfl) (fun _ _ _ h => h) (Or.inl ⟨by rfl, fun w0 hS0 => ?_⟩) (by assumption) ?_
          · obtain ⟨r0, r1, r2, r3, r4, r5, r6, r7⟩ := HCl.out _ (below_two HB3.out hS0); go_simp
          try simp only [Act.put, List.setIfInBounds_toArray, List.set_cons_zero, List.set_cons_succ]
          refine Till.takeA (i := 53) (oi := { dst := some 75, op := Op.fieldAddr 26 (Operand.tmp 4) 0, type := 0, pos := "law.go:18", after := #[{ on := 47, ground := Ground.guard }], guard := some (47, true) }) (v := .pointer (some ⟨w.heap.size, 0, none⟩)) rfl (by kernel_rfl) (by kernel_rfl) (by kernel_rfl) (by rfl) (fun _ _ _ h => h) (Or.inl ⟨by rfl, fun w0 hS0 => ?_⟩) (by assumption) ?_
          · go_simp
          try simp only [Act.put, List.setIfInBounds_toArray, List.set_cons_zero, List.set_cons_succ]
          refine Till.takeA (i := 54) (oi := { dst := some 76, op := Op.load 9 (Operand.tmp 75), type := 9, pos := "law.go:18", after := #[{ on := 53, ground := Ground.data }, { on := 47, ground := Ground.guard }], guard := some (47, true) }) (v := .string x.name) rfl (by kernel_rfl) (by kernel_rfl) (by kernel_rfl) (by rfl) (fun _ _ _ h => h) (Or.inl ⟨by rfl, fun w0 hS0 => ?_⟩) (by assumption) ?_
          · obtain ⟨r0, r1, r2, r3, r4, r5, r6, r7⟩ := HCl.out _ (below_two HB3.out hS0); go_simp
          try simp only [Act.put, List.setIfInBounds_toArray, List.set_cons_zero, List.set_cons_succ]
          refine Till.takeA (i := 55) (oi := { dst := some 77, op := Op.fieldAddr 26 (Operand.tmp 5) 0, type := 0, pos := "law.go:18", after := #[{ on := 47, ground := Ground.guard }], guard := some (47, true) }) (v := .pointer (some ⟨w.heap.size + 1, 0, none⟩)) rfl (by kernel_rfl) (by kernel_rfl) (by kernel_rfl) (by rfl) (fun _ _ _ h => h) (Or.inl ⟨by rfl, fun w0 hS0 => ?_⟩) (by assumption) ?_
          · go_simp
          try simp only [Act.put, List.setIfInBounds_toArray, List.set_cons_zero, List.set_cons_succ]
          refine Till.takeA (i := 56) (oi := { dst := some 78, op := Op.load 9 (Operand.tmp 77), type := 9, pos := "law.go:18", after := #[{ on := 55, ground := Ground.data }, { on := 47, ground := Ground.guard }], guard := some (47, true) }) (v := .string y.name) rfl (by kernel_rfl) (by kernel_rfl) (by kernel_rfl) (by rfl) (fun _ _ _ h => h) (Or.inl ⟨by rfl, fun w0 hS0 => ?_⟩) (by assumption) ?_
          · obtain ⟨r0, r1, r2, r3, r4, r5, r6, r7⟩ := HCl.out _ (below_two HB3.out hS0); go_simp
          try simp only [Act.put, List.setIfInBounds_toArray, List.set_cons_zero, List.set_cons_succ]
          refine Till.next (i := 52) (o := { dst := some 74, op := Op.call { callee := Callee.value (Operand.func 15), args := #[Operand.tmp 71, Operand.tmp 73], argTypes := #[9, 9] }, type := 3, pos := "law.go:18", after := #[{ on := 49, ground := Ground.data }, { on := 51, ground := Ground.data }, { on := 47, ground := Ground.chain }, { on := 47, ground := Ground.guard }], guard := some (47, true) }) (by kernel_rfl) rfl (fun K hK => ?_)
          go_simp
          refine (HVp.out _ (below_two HBq.out hHeld7)).mono ?_
          rintro e w8 ⟨rfl, hb⟩
          have hHeld8 : Below w4.heap.size w4 w8 := below_two hHeld7 hb
          clear hb
          go_wp2_with fail
          refine hK.out _ _ (fun _ => hHeld8) ?_
          clear hK K
          try simp only [Act.put, List.setIfInBounds_toArray, List.set_cons_zero, List.set_cons_succ]
          refine Till.next (i := 57) (o := { dst := some 79, op := Op.call { callee := Callee.value (Operand.func 16), args := #[Operand.tmp 76, Operand.tmp 78], argTypes := #[9, 9] }, type := 3, pos := "law.go:18", after := #[{ on := 54, ground := Ground.data }, { on := 56, ground := Ground.data }, { on := 52, ground := Ground.chain }, { on := 47, ground := Ground.guard }], guard := some (47, true) }) (by kernel_rfl) rfl (fun K hK => ?_)
          go_simp
          refine (HVr.out _).mono ?_
          rintro e w9 ⟨rfl, hb⟩
          have hHeld9 : Below w4.heap.size w4 w9 := below_two hHeld8 hb
          clear hb
          go_wp2_with fail
          refine hK.out _ _ (fun _ => hHeld9) ?_
          clear hK K
          try simp only [Act.put, List.setIfInBounds_toArray, List.set_cons_zero, List.set_cons_succ]
          refine Till.takeA (i := 58) (oi := { dst := some 80, op := Op.binOp BinOp.eql 3 (Operand.tmp 74) (Operand.tmp 79) 3, type := 4, pos := "law.go:18", after := #[{ on := 52, ground := Ground.data }, { on := 57, ground := Ground.data }, { on := 47, ground := Ground.guard }], guard := some (47, true) }) (v := .bool true) rfl (by kernel_rfl) (by kernel_rfl) (by kernel_rfl) (by rfl) (fun _ _ _ h => h) (Or.inl ⟨by rfl, fun w0 hS0 => ?_⟩) (by assumption) ?_
          · go_simp
          try simp only [Act.put, List.setIfInBounds_toArray, List.set_cons_zero, List.set_cons_succ]
          refine Till.takeA (i := 59) (oi := { dst := some 81, op := Op.pick (Operand.tmp 69) (Operand.tmp 80) (Operand.const (Value.bool false)), type := 4, pos := "law.go:18", after := #[{ on := 47, ground := Ground.data }, { on := 58, ground := Ground.data }], guard := none }) (v := .bool true) rfl (by kernel_rfl) (by kernel_rfl) (by kernel_rfl) (by rfl) (fun _ _ _ h => h) (Or.inl ⟨by rfl, fun w0 hS0 => ?_⟩) (by assumption) ?_
          · go_simp
          try simp only [Act.put, List.setIfInBounds_toArray, List.set_cons_zero, List.set_cons_succ]
          refine Till.takeA (i := 60) (oi := { dst := some 6, op := Op.assign (Operand.tmp 81), type := 4, pos := "law.go:18", after := #[{ on := 59, ground := Ground.data }, { on := 57, ground := Ground.chain }, { on := 0, ground := Ground.phase }, { on := 1, ground := Ground.phase }, { on := 2, ground := Ground.phase }, { on := 3, ground := Ground.phase }, { on := 4, ground := Ground.phase }, { on := 5, ground := Ground.phase }, { on := 6, ground := Ground.phase }, { on := 7, ground := Ground.phase }, { on := 8, ground := Ground.phase }, { on := 9, ground := Ground.phase }, { on := 10, ground := Ground.phase }, { on := 11, ground := Ground.phase }, { on := 12, ground := Ground.phase }, { on := 13, ground := Ground.phase }, { on := 14, ground := Ground.phase }, { on := 15, ground := Ground.phase }, { on := 16, ground := Ground.phase }, { on := 17, ground := Ground.phase }, { on := 18, ground := Ground.phase }, { on := 19, ground := Ground.phase }, { on := 20, ground := Ground.phase }, { on := 21, ground := Ground.phase }, { on := 22, ground := Ground.phase }, { on := 23, ground := Ground.phase }, { on := 24, ground := Ground.phase }, { on := 25, ground := Ground.phase }, { on := 26, ground := Ground.phase }, { on := 27, ground := Ground.phase }, { on := 28, ground := Ground.phase }, { on := 29, ground := Ground.phase }, { on := 30, ground := Ground.phase }, { on := 31, ground := Ground.phase }, { on := 32, ground := Ground.phase }, { on := 33, ground := Ground.phase }, { on := 34, ground := Ground.phase }, { on := 35, ground := Ground.phase }, { on := 36, ground := Ground.phase }, { on := 37, ground := Ground.phase }, { on := 38, ground := Ground.phase }, { on := 39, ground := Ground.phase }, { on := 40, ground := Ground.phase }, { on := 41, ground := Ground.phase }, { on := 42, ground := Ground.phase }, { on := 43, ground := Ground.phase }, { on := 44, ground := Ground.phase }, { on := 45, ground := Ground.phase }, { on := 46, ground := Ground.phase }, { on := 47, ground := Ground.phase }, { on := 48, ground := Ground.phase }, { on := 49, ground := Ground.phase }, { on := 50, ground := Ground.phase }, { on := 51, ground := Ground.phase }, { on := 52, ground := Ground.phase }, { on := 53, ground := Ground.phase }, { on := 54, ground := Ground.phase }, { on := 55, ground := Ground.phase }, { on := 56, ground := Ground.phase }, { on := 57, ground := Ground.phase }, { on := 58, ground := Ground.phase }, { on := 59, ground := Ground.phase }], guard := none }) (v := .bool true) rfl (by kernel_rfl) (by kernel_rfl) (by kernel_rfl) (by rfl) (fun _ _ _ h => h) (Or.inl ⟨by rfl, fun w0 hS0 => ?_⟩) (by assumption) ?_
          · go_simp
          try simp only [Act.put, List.setIfInBounds_toArray, List.set_cons_zero, List.set_cons_succ]
          refine Till.done (by kernel_rfl) ?_
-- TILL 43 END
          go_wp2
          go_ret
          exact ⟨rfl, below_two HBq.out hHeld9⟩
      · have HO1 := Lib.hid (show (o != 1) = true from bne_iff_ne.2 o1)
        by_cases o2 : o = 2
        · have HO2 := Lib.hid (show (o != 2) = false from by rw [o2]; rfl)
          by_cases ht : x.time = y.time
          · have HTq := Lib.hid (show (x.time == y.time) = true from beq_iff_eq.2 ht)
            have HZq := Lib.hid (show (C == 0) = true from beq_iff_eq.2 (HIf.out.2 ⟨hne, fun z => absurd z o1, fun _ => ht⟩))
            clear hne o1 o2 ht
-- TILL 44
            refine Till.region (z := 1000) (S := fun w' => Below w4.heap.size w4 w') (by kernel_rfl) ((Below.refl _ _).drew) (fun hHeld => ?_)
            refine Till.takeA (i := 0) (oi := { dst := some 22, op := Op.move (Operand.tmp 7), type := 3, pos := "law.go:18", after := #[], guard := none }) (v := .int .i64 C) rfl (by kernel_rfl) (by kernel_rfl) (by kernel_rfl) (by rfl) (fun _ _ _ h => h) (Or.inl ⟨by rfl, fun w0 hS0 => ?_⟩) (by assumption) ?_
            · go_simp
            try simp only [Act.put, List.setIfInBounds_toArray, List.set_cons_zero, List.set_cons_succ]
            refine Till.takeA (i := 1) (oi := { dst := some 23, op := Op.move (Operand.tmp 0), type := 3, pos := "law.go:18", after := #[], guard := none }) (v := .int .i64 o) rfl (by kernel_rfl) (by kernel_rfl) (by kernel_rfl) (by rfl) (fun _ _ _ h => h) (Or.inl ⟨by rfl, fun w0 hS0 => ?_⟩) (by assumption) ?_
            · go_simp
            try simp only [Act.put, List.setIfInBounds_toArray, List.set_cons_zero, List.set_cons_succ]
            refine Till.takeA (i := 2) (oi := { dst := some 24, op := Op.load 26 (Operand.tmp 4), type := 26, pos := "law.go:18", after := #[], guard := none }) (v := .agg #[.string x.name, .int .i64 x.size, .int .i64 x.time, .bool x.dir]) rfl (by kernel_rfl) (by kernel_rfl) (by kernel_rfl) (by rfl) (fun _ _ _ h => h) (Or.inl ⟨by rfl, fun w0 hS0 => ?_⟩) (by assumption) ?_
            · obtain ⟨r0, r1, r2, r3, r4, r5, r6, r7⟩ := HCl.out _ (below_two HB3.out hS0); go_simp
            try simp only [Act.put, List.setIfInBounds_toArray, List.set_cons_zero, List.set_cons_succ]
            refine Till.takeA (i := 3) (oi := { dst := some 25, op := Op.load 26 (Operand.tmp 5), type := 26, pos := "law.go:18", after := #[], guard := none }) (v := .agg #[.string y.name, .int .i64 y.size, .int .i64 y.time, .bool y.dir]) rfl (by kernel_rfl) (by kernel_rfl) (by kernel_rfl) (by rfl) (fun _ _ _ h => h) (Or.inl ⟨by rfl, fun w0 hS0 => ?_⟩) (by assumption) ?_
            · obtain ⟨r0, r1, r2, r3, r4, r5, r6, r7⟩ := HCl.out _ (below_two HB3.out hS0); go_simp
            try simp only [Act.put, List.setIfInBounds_toArray, List.set_cons_zero, List.set_cons_succ]
            refine Till.next (i := 4) (o := { dst := some 26, op := Op.call { callee := Callee.value (Operand.func 12), args := #[Operand.tmp 23, Operand.tmp 24, Operand.tmp 25], argTypes := #[3, 26, 26] }, type := 3, pos := "law.go:18", after := #[{ on := 1, ground := Ground.data }, { on := 2, ground := Ground.data }, { on := 3, ground := Ground.data }], guard := none }) (by kernel_rfl) rfl (fun K hK => ?_)
            go_simp
            refine (HRc.out _).mono ?_
            rintro e w5 ⟨rfl, hb⟩
            have hHeld5 : Below w4.heap.size w4 w5 := below_two hHeld hb
            clear hb
            go_wp2_with fail
            refine hK.out _ _ (fun _ => hHeld5) ?_
            clear hK K
            try simp only [Act.put, List.setIfInBounds_toArray, List.set_cons_zero, List.set_cons_succ]
            refine Till.takeA (i := 5) (oi := { dst := some 27, op := Op.binOp BinOp.eql 3 (Operand.tmp 22) (Operand.tmp 26) 3, type := 4, pos := "law.go:18", after := #[{ on := 0, ground := Ground.data }, { on := 4, ground := Ground.data }], guard := none }) (v := .bool true) rfl (by kernel_rfl) (by kernel_rfl) (by kernel_rfl) (by rfl) (fun _ _ _ h => h) (Or.inl ⟨by rfl, fun w0 hS0 => ?_⟩) (by assumption) ?_
            · go_simp
            try simp only [Act.put, List.setIfInBounds_toArray, List.set_cons_zero, List.set_cons_succ]
            refine Till.takeA (i := 6) (oi := { dst := some 28, op := Op.move (Operand.tmp 27), type := 4, pos := "law.go:18", after := #[{ on := 5, ground := Ground.data }, { on := 4, ground := Ground.chain }], guard := none }) (v := .bool true) rfl (by kernel_rfl) (by kernel_rfl) (by kernel_rfl) (by rfl) (fun _ _ _ h => h) (Or.inl ⟨by rfl, fun w0 hS0 => ?_⟩) (by assumption) ?_
            · go_simp
            try simp only [Act.put, List.setIfInBounds_toArray, List.set_cons_zero, List.set_cons_succ]
            refine Till.takeA (i := 7) (oi := { dst := some 29, op := Op.move (Operand.tmp 7), type := 3, pos := "law.go:18", after := #[{ on := 6, ground := Ground.guard }], guard := some (6, true) }) (v := .int .i64 C) rfl (by kernel_rfl) (by kernel_rfl) (by kernel_rfl) (by rfl) (fun _ _ _ h => h) (Or.inl ⟨by rfl, fun w0 hS0 => ?_⟩) (by assumption) ?_
            · go_simp
            try simp only [Act.put, List.setIfInBounds_toArray, List.set_cons_zero, List.set_cons_succ]
            refine Till.takeA (i := 8) (oi := { dst := some 30, op := Op.binOp BinOp.eql 3 (Operand.tmp 29) (Operand.const (Value.int IntKind.i64 0)) 3, type := 4, pos := "law.go:18", after := #[{ on := 7, ground := Ground.data }, { on := 6, ground := Ground.guard }], guard := some (6, true) }) (v := .bool true) rfl (by kernel_rfl) (by kernel_rfl) (by kernel_rfl) (by rfl) (fun _ _ _ h => h) (Or.inl ⟨by rfl, fun w0 hS0 => ?_⟩) (by assumption) ?_
            · have hq := HZq.out; go_simp
            try simp only [Act.put, List.setIfInBounds_toArray, List.set_cons_zero, List.set_cons_succ]
            refine Till.takeA (i := 9) (oi := { dst := some 31, op := Op.fieldAddr 26 (Operand.tmp 4) 0, type := 0, pos := "law.go:18", after := #[{ on := 6, ground := Ground.guard }], guard := some (6, true) }) (v := .pointer (some ⟨w.heap.size, 0, none⟩)) rfl (by kernel_rfl) (by kernel_rfl) (by kernel_rfl) (by rfl) (fun _ _ _ h => h) (Or.inl ⟨by rfl, fun w0 hS0 => ?_⟩) (by assumption) ?_
            · go_simp
            try simp only [Act.put, List.setIfInBounds_toArray, List.set_cons_zero, List.set_cons_succ]
            refine Till.takeA (i := 10) (oi := { dst := some 32, op := Op.load 9 (Operand.tmp 31), type := 9, pos := "law.go:18", after := #[{ on := 9, ground := Ground.data }, { on := 6, ground := Ground.guard }], guard := some (6, true) }) (v := .string x.name) rfl (by kernel_rfl) (by kernel_rfl) (by kernel_rfl) (by rfl) (fun _ _ _ h => h) (Or.inl ⟨by rfl, fun w0 hS0 => ?_⟩) (by assumption) ?_
            · obtain ⟨r0, r1, r2, r3, r4, r5, r6, r7⟩ := HCl.out _ (below_two HB3.out hS0); go_simp
            try simp only [Act.put, List.setIfInBounds_toArray, List.set_cons_zero, List.set_cons_succ]
            refine Till.takeA (i := 11) (oi := { dst := some 33, op := Op.fieldAddr 26 (Operand.tmp 5) 0, type := 0, pos := "law.go:18", after := #[{ on := 6, ground := Ground.guard }], guard := some (6, true) }) (v := .pointer (some ⟨w.heap.size + 1, 0, none⟩)) rfl (by kernel_rfl) (by kernel_rfl) (by kernel_rfl) (by rfl) (fun _ _ _ h => h) (Or.inl ⟨by rfl, fun w0 hS0 => ?_⟩) (by assumption) ?_
            · go_simp
            try simp only [Act.put, List.setIfInBounds_toArray, List.set_cons_zero, List.set_cons_succ]
            refine Till.takeA (i := 12) (oi := { dst := some 34, op := Op.load 9 (Operand.tmp 33), type := 9, pos := "law.go:18", after := #[{ on := 11, ground := Ground.data }, { on := 6, ground := Ground.guard }], guard := some (6, true) }) (v := .string y.name) rfl (by kernel_rfl) (by kernel_rfl) (by kernel_rfl) (by rfl) (fun _ _ _ h => h) (Or.inl ⟨by rfl, fun w0 hS0 => ?_⟩) (by assumption) ?_
            · obtain ⟨r0, r1, r2, r3, r4, r5, r6, r7⟩ := HCl.out _ (below_two HB3.out hS0); go_simp
            try simp only [Act.put, List.setIfInBounds_toArray, List.set_cons_zero, List.set_cons_succ]
            refine Till.takeA (i := 13) (oi := { dst := some 35, op := Op.binOp BinOp.eql 9 (Operand.tmp 32) (Operand.tmp 34) 9, type := 4, pos := "law.go:18", after := #[{ on := 10, ground := Ground.data }, { on := 12, ground := Ground.data }, { on := 6, ground := Ground.guard }], guard := some (6, true) }) (v := .bool true) rfl (by kernel_rfl) (by kernel_rfl) (by kernel_rfl) (by rfl) (fun _ _ _ h => h) (Or.inl ⟨by rfl, fun w0 hS0 => ?_⟩) (by assumption) ?_
            · obtain ⟨hq1, hq2, hq3⟩ := HNq.out; go_simp
            try simp only [Act.put, List.setIfInBounds_toArray, List.set_cons_zero, List.set_cons_succ]
            refine Till.takeA (i := 14) (oi := { dst := some 36, op := Op.move (Operand.tmp 35), type := 4, pos := "law.go:18", after := #[{ on := 13, ground := Ground.data }, { on := 6, ground := Ground.chain }, { on := 6, ground := Ground.guard }], guard := some (6, true) }) (v := .bool true) rfl (by kernel_rfl) (by kernel_rfl) (by kernel_rfl) (by rfl) (fun _ _ _ h => h) (Or.inl ⟨by rfl, fun w0 hS0 => ?_⟩) (by assumption) ?_
            · go_simp
            try simp only [Act.put, List.setIfInBounds_toArray, List.set_cons_zero, List.set_cons_succ]
            refine Till.takeA (i := 15) (oi := { dst := some 37, op := Op.move (Operand.tmp 0), type := 3, pos := "law.go:18", after := #[{ on := 14, ground := Ground.guard }], guard := some (14, true) }) (v := .int .i64 o) rfl (by kernel_rfl) (by kernel_rfl) (by kernel_rfl) (by rfl) (fun _ _ _ h => h) (Or.inl ⟨by rfl, fun w0 hS0 => ?_⟩) (by assumption) ?_
            · go_simp
            try simp only [Act.put, List.setIfInBounds_toArray, List.set_cons_zero, List.set_cons_succ]
            refine Till.takeA (i := 16) (oi := { dst := some 38, op := Op.binOp BinOp.neq 3 (Operand.tmp 37) (Operand.const (Value.int IntKind.i64 1)) 3, type := 4, pos := "law.go:18", after := #[{ on := 15, ground := Ground.data }, { on := 14, ground := Ground.guard }], guard := some (14, true) }) (v := .bool true) rfl (by kernel_rfl) (by kernel_rfl) (by kernel_rfl) (by rfl) (fun _ _ _ h => h) (Or.inl ⟨by rfl, fun w0 hS0 => ?_⟩) (by assumption) ?_
            · have hq := HO1.out; go_simp
            try simp only [Act.put, List.setIfInBounds_toArray, List.set_cons_zero, List.set_cons_succ]
            refine Till.takeA (i := 17) (oi := { dst := some 39, op := Op.move (Operand.tmp 38), type := 4, pos := "law.go:18", after := #[{ on := 16, ground := Ground.data }, { on := 14, ground := Ground.chain }, { on := 14, ground := Ground.guard }], guard := some (14, true) }) (v := .bool true) rfl (by kernel_rfl) (by kernel_rfl) (by kernel_rfl) (by rfl) (fun _ _ _ h => h) (Or.inl ⟨by rfl, fun w0 hS0 => ?_⟩) (by assumption) ?_
            · go_simp
            try simp only [Act.put, List.setIfInBounds_toArray, List.set_cons_zero, List.set_cons_succ]
            refine Till.takeA (i := 18) (oi := { dst := some 40, op := Op.fieldAddr 26 (Operand.tmp 4) 1, type := 0, pos := "law.go:18", after := #[{ on := 17, ground := Ground.guard }], guard := some (17, false) }) (v := undef) rfl (by kernel_rfl) (by kernel_rfl) (by kernel_rfl) (by rfl) (fun _ _ _ h => h) (Or.inr ⟨by rfl, rfl⟩) (by assumption) ?_
            try simp only [Act.put, List.setIfInBounds_toArray, List.set_cons_zero, List.set_cons_succ]
            refine Till.takeA (i := 19) (oi := { dst := some 41, op := Op.load 2 (Operand.tmp 40), type := 2, pos := "law.go:18", after := #[{ on := 18, ground := Ground.data }, { on := 17, ground := Ground.guard }], guard := some (17, false) }) (v := undef) rfl (by kernel_rfl) (by kernel_rfl) (by kernel_rfl) (by rfl) (fun _ _ _ h => h) (Or.inr ⟨by rfl, rfl⟩) (by assumption) ?_
            try simp only [Act.put, List.setIfInBounds_toArray, List.set_cons_zero, List.set_cons_succ]
            refine Till.takeA (i := 20) (oi := { dst := some 42, op := Op.fieldAddr 26 (Operand.tmp 5) 1, type := 0, pos := "law.go:18", after := #[{ on := 17, ground := Ground.guard }], guard := some (17, false) }) (v := undef) rfl (by kernel_rfl) (by kernel_rfl) (by kernel_rfl) (by rfl) (fun _ _ _ h => h) (Or.inr ⟨by rfl, rfl⟩) (by assumption) ?_
            try simp only [Act.put, List.setIfInBounds_toArray, List.set_cons_zero, List.set_cons_succ]
            refine Till.takeA (i := 21) (oi := { dst := some 43, op := Op.load 2 (Operand.tmp 42), type := 2, pos := "law.go:18", after := #[{ on := 20, ground := Ground.data }, { on := 17, ground := Ground.guard }], guard := some (17, false) }) (v := undef) rfl (by kernel_rfl) (by kernel_rfl) (by kernel_rfl) (by rfl) (fun _ _ _ h => h) (Or.inr ⟨by rfl, rfl⟩) (by assumption) ?_
            try simp only [Act.put, List.setIfInBounds_toArray, List.set_cons_zero, List.set_cons_succ]
            refine Till.takeA (i := 22) (oi := { dst := some 44, op := Op.binOp BinOp.eql 2 (Operand.tmp 41) (Operand.tmp 43) 2, type := 4, pos := "law.go:18", after := #[{ on := 19, ground := Ground.data }, { on := 21, ground := Ground.data }, { on := 17, ground := Ground.guard }], guard := some (17, false) }) (v := undef) rfl (by kernel_rfl) (by kernel_rfl) (by kernel_rfl) (by rfl) (fun _ _ _ h => h) (Or.inr ⟨by rfl, rfl⟩) (by assumption) ?_
            try simp only [Act.put, List.setIfInBounds_toArray, List.set_cons_zero, List.set_cons_succ]
            refine Till.takeA (i := 23) (oi := { dst := some 45, op := Op.pick (Operand.tmp 39) (Operand.const (Value.bool true)) (Operand.tmp 44), type := 4, pos := "law.go:18", after := #[{ on := 17, ground := Ground.data }, { on := 22, ground := Ground.data }, { on := 14, ground := Ground.guard }], guard := some (14, true) }) (v := .bool true) rfl (by kernel_rfl) (by kernel_rfl) (by kernel_rfl) (by rfl) (fun _ _ _ h => h) (Or.inl ⟨by rfl, fun w0 hS0 => ?_⟩) (by assumption) ?_
            · go_simp
            try simp only [Act.put, List.setIfInBounds_toArray, List.set_cons_zero, List.set_cons_succ]
            refine Till.takeA (i := 24) (oi := { dst := some 46, op := Op.pick (Operand.tmp 36) (Operand.tmp 45) (Operand.const (Value.bool false)), type := 4, pos := "law.go:18", after := #[{ on := 14, ground := Ground.data }, { on := 23, ground := Ground.data }, { on := 6, ground := Ground.guard }], guard := some (6, true) }) (v := .bool true) rfl (by kernel_rfl) (by kernel_rfl) (by kernel_rfl) (by rfl) (fun _ _ _ h => h) (Or.inl ⟨by rfl, fun w0 hS0 => ?_⟩) (by assumption) ?_
            · go_simp
            try simp only [Act.put, List.setIfInBounds_toArray, List.set_cons_zero, List.set_cons_succ]
            refine Till.takeA (i := 25) (oi := { dst := some 47, op := Op.move (Operand.tmp 46), type := 4, pos := "law.go:18", after := #[{ on := 24, ground := Ground.data }, { on := 17, ground := Ground.chain }, { on := 6, ground := Ground.guard }], guard := some (6, true) }) (v := .bool true) rfl (by kernel_rfl) (by kernel_rfl) (by kernel_rfl) (by rfl) (fun _ _ _ h => h) (Or.inl ⟨by rfl, fun w0 hS0 => ?_⟩) (by assumption) ?_
            · go_simp
            try simp only [Act.put, List.setIfInBounds_toArray, List.set_cons_zero, List.set_cons_succ]
            refine Till.takeA (i := 26) (oi := { dst := some 48, op := Op.move (Operand.tmp 0), type := 3, pos := "law.go:18", after := #[{ on := 25, ground := Ground.guard }], guard := some (25, true) }) (v := .int .i64 o) rfl (by kernel_rfl) (by kernel_rfl) (by kernel_rfl) (by rfl) (fun _ _ _ h => h) (Or.inl ⟨by rfl, fun w0 hS0 => ?_⟩) (by assumption) ?_
            · go_simp
            try simp only [Act.put, List.setIfInBounds_toArray, List.set_cons_zero, List.set_cons_succ]
            refine Till.takeA (i := 27) (oi := { dst := some 49, op := Op.binOp BinOp.neq 3 (Operand.tmp 48) (Operand.const (Value.int IntKind.i64 2)) 3, type := 4, pos := "law.go:18", after := #[{ on := 26, ground := Ground.data }, { on := 25, ground := Ground.guard }], guard := some (25, true) }) (v := .bool false) rfl (by kernel_rfl) (by kernel_rfl) (by kernel_rfl) (by rfl) (fun _ _ _ h => h) (Or.inl ⟨by rfl, fun w0 hS0 => ?_⟩) (by assumption) ?_
            · have hq := HO2.out; go_simp
            try simp only [Act.put, List.setIfInBounds_toArray, List.set_cons_zero, List.set_cons_succ]
            refine Till.takeA (i := 28) (oi := { dst := some 50, op := Op.move (Operand.tmp 49), type := 4, pos := "law.go:18", after := #[{ on := 27, ground := Ground.data }, { on := 25, ground := Ground.chain }, { on := 25, ground := Ground.guard }], guard := some (25, true) }) (v := .bool false) rfl (by kernel_rfl) (by kernel_rfl) (by kernel_rfl) (by rfl) (fun _ _ _ h => h) (Or.inl ⟨by rfl, fun w0 hS0 => ?_⟩) (by assumption) ?_
            · go_simp
            try simp only [Act.put, List.setIfInBounds_toArray, List.set_cons_zero, List.set_cons_succ]
            refine Till.takeA (i := 29) (oi := { dst := some 51, op := Op.fieldAddr 26 (Operand.tmp 4) 2, type := 0, pos := "law.go:18", after := #[{ on := 28, ground := Ground.guard }], guard := some (28, false) }) (v := .pointer (some ⟨w.heap.size, 2, none⟩)) rfl (by kernel_rfl) (by kernel_rfl) (by kernel_rfl) (by rfl) (fun _ _ _ h => h) (Or.inl ⟨by rfl, fun w0 hS0 => ?_⟩) (by assumption) ?_
            · go_simp
            try simp only [Act.put, List.setIfInBounds_toArray, List.set_cons_zero, List.set_cons_succ]
            refine Till.takeA (i := 30) (oi := { dst := some 52, op := Op.load 2 (Operand.tmp 51), type := 2, pos := "law.go:18", after := #[{ on := 29, ground := Ground.data }, { on := 28, ground := Ground.guard }], guard := some (28, false) }) (v := .int .i64 x.time) rfl (by kernel_rfl) (by kernel_rfl) (by kernel_rfl) (by rfl) (fun _ _ _ h => h) (Or.inl ⟨by rfl, fun w0 hS0 => ?_⟩) (by assumption) ?_
            · obtain ⟨r0, r1, r2, r3, r4, r5, r6, r7⟩ := HCl.out _ (below_two HB3.out hS0); go_simp
            try simp only [Act.put, List.setIfInBounds_toArray, List.set_cons_zero, List.set_cons_succ]
            refine Till.takeA (i := 31) (oi := { dst := some 53, op := Op.fieldAddr 26 (Operand.tmp 5) 2, type := 0, pos := "law.go:18", after := #[{ on := 28, ground := Ground.guard }], guard := some (28, false) }) (v := .pointer (some ⟨w.heap.size + 1, 2, none⟩)) rfl (by kernel_rfl) (by kernel_rfl) (by kernel_rfl) (by rfl) (fun _ _ _ h => h) (Or.inl ⟨by rfl, fun w0 hS0 => ?_⟩) (by assumption) ?_
            · go_simp
            try simp only [Act.put, List.setIfInBounds_toArray, List.set_cons_zero, List.set_cons_succ]
            refine Till.takeA (i := 32) (oi := { dst := some 54, op := Op.load 2 (Operand.tmp 53), type := 2, pos := "law.go:18", after := #[{ on := 31, ground := Ground.data }, { on := 28, ground := Ground.guard }], guard := some (28, false) }) (v := .int .i64 y.time) rfl (by kernel_rfl) (by kernel_rfl) (by kernel_rfl) (by rfl) (fun _ _ _ h => h) (Or.inl ⟨by rfl, fun w0 hS0 => ?_⟩) (by assumption) ?_
            · obtain ⟨r0, r1, r2, r3, r4, r5, r6, r7⟩ := HCl.out _ (below_two HB3.out hS0); go_simp
            try simp only [Act.put, List.setIfInBounds_toArray, List.set_cons_zero, List.set_cons_succ]
            refine Till.takeA (i := 33) (oi := { dst := some 55, op := Op.binOp BinOp.eql 2 (Operand.tmp 52) (Operand.tmp 54) 2, type := 4, pos := "law.go:18", after := #[{ on := 30, ground := Ground.data }, { on := 32, ground := Ground.data }, { on := 28, ground := Ground.guard }], guard := some (28, false) }) (v := .bool true) rfl (by kernel_rfl) (by kernel_rfl) (by kernel_rfl) (by rfl) (fun _ _ _ h => h) (Or.inl ⟨by rfl, fun w0 hS0 => ?_⟩) (by assumption) ?_
            · have hq := HTq.out; go_simp
            try simp only [Act.put, List.setIfInBounds_toArray, List.set_cons_zero, List.set_cons_succ]
            refine Till.takeA (i := 34) (oi := { dst := some 56, op := Op.pick (Operand.tmp 50) (Operand.const (Value.bool true)) (Operand.tmp 55), type := 4, pos := "law.go:18", after := #[{ on := 28, ground := Ground.data }, { on := 33, ground := Ground.data }, { on := 25, ground := Ground.guard }], guard := some (25, true) }) (v := .bool true) rfl (by kernel_rfl) (by kernel_rfl) (by kernel_rfl) (by rfl) (fun _ _ _ h => h) (Or.inl ⟨by rfl, fun w0 hS0 => ?_⟩) (by assumption) ?_
            · go_simp
            try simp only [Act.put, List.setIfInBounds_toArray, List.set_cons_zero, List.set_cons_succ]
            refine Till.takeA (i := 35) (oi := { dst := some 57, op := Op.pick (Operand.tmp 47) (Operand.tmp 56) (Operand.const (Value.bool false)), type := 4, pos := "law.go:18", after := #[{ on := 25, ground := Ground.data }, { on := 34, ground := Ground.data }, { on := 6, ground := Ground.guard }], guard := some (6, true) }) (v := .bool true) rfl (by kernel_rfl) (by kernel_rfl) (by kernel_rfl) (by rfl) (fun _ _ _ h => h) (Or.inl ⟨by rfl, fun w0 hS0 => ?_⟩) (by assumption) ?_
            · go_simp
            try simp only [Act.put, List.setIfInBounds_toArray, List.set_cons_zero, List.set_cons_succ]
            refine Till.takeA (i := 36) (oi := { dst := some 58, op := Op.binOp BinOp.eql 4 (Operand.tmp 30) (Operand.tmp 57) 4, type := 4, pos := "law.go:18", after := #[{ on := 8, ground := Ground.data }, { on := 35, ground := Ground.data }, { on := 6, ground := Ground.guard }], guard := some (6, true) }) (v := .bool true) rfl (by kernel_rfl) (by kernel_rfl) (by kernel_rfl) (by rfl) (fun _ _ _ h => h) (Or.inl ⟨by rfl, fun w0 hS0 => ?_⟩) (by assumption) ?_
            · go_simp
            try simp only [Act.put, List.setIfInBounds_toArray, List.set_cons_zero, List.set_cons_succ]
            refine Till.takeA (i := 37) (oi := { dst := some 59, op := Op.pick (Operand.tmp 28) (Operand.tmp 58) (Operand.const (Value.bool false)), type := 4, pos := "law.go:18", after := #[{ on := 6, ground := Ground.data }, { on := 36, ground := Ground.data }], guard := none }) (v := .bool true) rfl (by kernel_rfl) (by kernel_rfl) (by kernel_rfl) (by rfl) (fun _ _ _ h => h) (Or.inl ⟨by rfl, fun w0 hS0 => ?_⟩) (by assumption) ?_
            · go_simp
            try simp only [Act.put, List.setIfInBounds_toArray, List.set_cons_zero, List.set_cons_succ]
            refine Till.takeA (i := 38) (oi := { dst := some 60, op := Op.move (Operand.tmp 59), type := 4, pos := "law.go:18", after := #[{ on := 37, ground := Ground.data }, { on := 28, ground := Ground.chain }], guard := none }) (v := .bool true) rfl (by kernel_rfl) (by kernel_rfl) (by kernel_rfl) (by rfl) (fun _ _ _ h => h) (Or.inl ⟨by rfl, fun w0 hS0 => ?_⟩) (by assumption) ?_
            · go_simp
            try simp only [Act.put, List.setIfInBounds_toArray, List.set_cons_zero, List.set_cons_succ]
            refine Till.takeA (i := 39) (oi := { dst := some 61, op := Op.fieldAddr 26 (Operand.tmp 4) 0, type := 0, pos := "law.go:18", after := #[{ on := 38, ground := Ground.guard }], guard := some (38, true) }) (v := .pointer (some ⟨w.heap.size, 0, none⟩)) rfl (by kernel_rfl) (by kernel_rfl) (by kernel_rfl) (by rfl) (fun _ _ _ h => h) (Or.inl ⟨by rfl, fun w0 hS0 => ?_⟩) (by assumption) ?_
            · go_simp
            try simp only [Act.put, List.setIfInBounds_toArray, List.set_cons_zero, List.set_cons_succ]
            refine Till.takeA (i := 40) (oi := { dst := some 62, op := Op.load 9 (Operand.tmp 61), type := 9, pos := "law.go:18", after := #[{ on := 39, ground := Ground.data }, { on := 38, ground := Ground.guard }], guard := some (38, true) }) (v := .string x.name) rfl (by kernel_rfl) (by kernel_rfl) (by kernel_rfl) (by rfl) (fun _ _ _ h => h) (Or.inl ⟨by rfl, fun w0 hS0 => ?_⟩) (by assumption) ?_
            · obtain ⟨r0, r1, r2, r3, r4, r5, r6, r7⟩ := HCl.out _ (below_two HB3.out hS0); go_simp
            try simp only [Act.put, List.setIfInBounds_toArray, List.set_cons_zero, List.set_cons_succ]
            refine Till.takeA (i := 42) (oi := { dst := some 64, op := Op.fieldAddr 26 (Operand.tmp 4) 0, type := 0, pos := "law.go:18", after := #[{ on := 38, ground := Ground.guard }], guard := some (38, true) }) (v := .pointer (some ⟨w.heap.size, 0, none⟩)) rfl (by kernel_rfl) (by kernel_rfl) (by kernel_rfl) (by rfl) (fun _ _ _ h => h) (Or.inl ⟨by rfl, fun w0 hS0 => ?_⟩) (by assumption) ?_
            · go_simp
            try simp only [Act.put, List.setIfInBounds_toArray, List.set_cons_zero, List.set_cons_succ]
            refine Till.takeA (i := 43) (oi := { dst := some 65, op := Op.load 9 (Operand.tmp 64), type := 9, pos := "law.go:18", after := #[{ on := 42, ground := Ground.data }, { on := 38, ground := Ground.guard }], guard := some (38, true) }) (v := .string x.name) rfl (by kernel_rfl) (by kernel_rfl) (by kernel_rfl) (by rfl) (fun _ _ _ h => h) (Or.inl ⟨by rfl, fun w0 hS0 => ?_⟩) (by assumption) ?_
            · obtain ⟨r0, r1, r2, r3, r4, r5, r6, r7⟩ := HCl.out _ (below_two HB3.out hS0); go_simp
            try simp only [Act.put, List.setIfInBounds_toArray, List.set_cons_zero, List.set_cons_succ]
            refine Till.next (i := 41) (o := { dst := some 63, op := Op.call { callee := Callee.value (Operand.func 13), args := #[Operand.tmp 62], argTypes := #[9] }, type := 9, pos := "law.go:18", after := #[{ on := 40, ground := Ground.data }, { on := 38, ground := Ground.chain }, { on := 38, ground := Ground.guard }], guard := some (38, true) }) (by kernel_rfl) rfl (fun K hK => ?_)
            go_simp
            refine (HEp.out _ (below_two HBq.out hHeld5)).mono ?_
            rintro e w6 ⟨rfl, hb⟩
            have hHeld6 : Below w4.heap.size w4 w6 := below_two hHeld5 hb
            clear hb
            go_wp2_with fail
            refine hK.out _ _ (fun _ => hHeld6) ?_
            clear hK K
            try simp only [Act.put, List.setIfInBounds_toArray, List.set_cons_zero, List.set_cons_succ]
            refine Till.next (i := 44) (o := { dst := some 66, op := Op.call { callee := Callee.value (Operand.func 14), args := #[Operand.tmp 65], argTypes := #[9] }, type := 9, pos := "law.go:18", after := #[{ on := 43, ground := Ground.data }, { on := 41, ground := Ground.chain }, { on := 38, ground := Ground.guard }], guard := some (38, true) }) (by kernel_rfl) rfl (fun K hK => ?_)
            go_simp
            refine (HEr.out _).mono ?_
            rintro e w7 ⟨rfl, hb⟩
            have hHeld7 : Below w4.heap.size w4 w7 := by rw [← hb]; exact hHeld6
            clear hb
            go_wp2_with fail
            refine hK.out _ _ (fun _ => hHeld7) ?_
            clear hK K
            try simp only [Act.put, List.setIfInBounds_toArray, List.set_cons_zero, List.set_cons_succ]
            refine Till.takeA (i := 45) (oi := { dst := some 67, op := Op.binOp BinOp.eql 9 (Operand.tmp 63) (Operand.tmp 66) 9, type := 4, pos := "law.go:18", after := #[{ on := 41, ground := Ground.data }, { on := 44, ground := Ground.data }, { on := 38, ground := Ground.guard }], guard := some (38, true) }) (v := .bool true) rfl (by kernel_rfl) (by kernel_rfl) (by kernel_rfl) (by rfl) (fun _ _ _ h => h) (Or.inl ⟨by rfl, fun w0 hS0 => ?_⟩) (by assumption) ?_
            · go_simp
            try simp only [Act.put, List.setIfInBounds_toArray, List.set_cons_zero, List.set_cons_succ]
            refine Till.takeA (i := 46) (oi := { dst := some 68, op := Op.pick (Operand.tmp 60) (Operand.tmp 67) (Operand.const (Value.bool false)), type := 4, pos := "law.go:18", after := #[{ on := 38, ground := Ground.data }, { on := 45, ground := Ground.data }], guard := none }) (v := .bool true) rfl (by kernel_rfl) (by kernel_rfl) (by kernel_rfl) (by rfl) (fun _ _ _ h => h) (Or.inl ⟨by rfl, fun w0 hS0 => ?_⟩) (by assumption) ?_
            · go_simp
            try simp only [Act.put, List.setIfInBounds_toArray, List.set_cons_zero, List.set_cons_succ]
            refine Till.takeA (i := 47) (oi := { dst := some 69, op := Op.move (Operand.tmp 68), type := 4, pos := "law.go:18", after := #[{ on := 46, ground := Ground.data }, { on := 44, ground := Ground.chain }], guard := none }) (v := .bool true) rfl (by kernel_rfl) (by kernel_rfl) (by kernel_rfl) (by rfl) (fun _ _ _ h => h) (Or.inl ⟨by rfl, fun w0 hS0 => ?_⟩) (by assumption) ?_
            · go_simp
            try simp only [Act.put, List.setIfInBounds_toArray, List.set_cons_zero, List.set_cons_succ]
            refine Till.takeA (i := 48) (oi := { dst := some 70, op := Op.fieldAddr 26 (Operand.tmp 4) 0, type := 0, pos := "law.go:18", after := #[{ on := 47, ground := Ground.guard }], guard := some (47, true) }) (v := .pointer (some ⟨w.heap.size, 0, none⟩)) rfl (by kernel_rfl) (by kernel_rfl) (by kernel_rfl) (by rfl) (fun _ _ _ h => h) (Or.inl ⟨by rfl, fun w0 hS0 => ?_⟩) (by assumption) ?_
            · go_simp
            try simp only [Act.put, List.setIfInBounds_toArray, List.set_cons_zero, List.set_cons_succ]
            refine Till.takeA (i := 49) (oi := { dst := some 71, op := Op.load 9 (Operand.tmp 70), type := 9, pos := "law.go:18", after := #[{ on := 48, ground := Ground.data }, { on := 47, ground := Ground.guard }], guard := some (47, true) }) (v := .string x.name) rfl (by kernel_rfl) (by kernel_rfl) (by kernel_rfl) (by rfl) (fun _ _ _ h => h) (Or.inl ⟨by rfl, fun w0 hS0 => ?_⟩) (by assumption) ?_
            · obtain ⟨r0, r1, r2, r3, r4, r5, r6, r7⟩ := HCl.out _ (below_two HB3.out hS0); go_simp
            try simp only [Act.put, List.setIfInBounds_toArray, List.set_cons_zero, List.set_cons_succ]
            refine Till.takeA (i := 50) (oi := { dst := some 72, op := Op.fieldAddr 26 (Operand.tmp 5) 0, type := 0, pos := "law.go:18", after := #[{ on := 47, ground := Ground.guard }], guard := some (47, true) }) (v := .pointer (some ⟨w.heap.size + 1, 0, none⟩)) rfl (by kernel_rfl) (by kernel_rfl) (by kernel_rfl) (by rfl) (fun _ _ _ h => h) (Or.inl ⟨by rfl, fun w0 hS0 => ?_⟩) (by assumption) ?_
            · go_simp
            try simp only [Act.put, List.setIfInBounds_toArray, List.set_cons_zero, List.set_cons_succ]
            refine Till.takeA (i := 51) (oi := { dst := some 73, op := Op.load 9 (Operand.tmp 72), type := 9, pos := "law.go:18", after := #[{ on := 50, ground := Ground.data }, { on := 47, ground := Ground.guard }], guard := some (47, true) }) (v := .string y.name) rfl (by kernel_rfl) (by kernel_rfl) (by kernel_rfl) (by rfl) (fun _ _ _ h => h) (Or.inl ⟨by rfl, fun w0 hS0 => ?_⟩) (by assumption) ?_
            · obtain ⟨r0, r1, r2, r3, r4, r5, r6, r7⟩ := HCl.out _ (below_two HB3.out hS0); go_simp
            try simp only [Act.put, List.setIfInBounds_toArray, List.set_cons_zero, List.set_cons_succ]
            refine Till.takeA (i := 53) (oi := { dst := some 75, op := Op.fieldAddr 26 (Operand.tmp 4) 0, type := 0, pos := "law.go:18", after := #[{ on := 47, ground := Ground.guard }], guard := some (47, true) }) (v := .pointer (some ⟨w.heap.size, 0, none⟩)) rfl (by kernel_rfl) (by kernel_rfl) (by kernel_rfl) (by rfl) (fun _ _ _ h => h) (Or.inl ⟨by rfl, fun w0 hS0 => ?_⟩) (by assumption) ?_
            · go_simp
            try simp only [Act.put, List.setIfInBounds_toArray, List.set_cons_zero, List.set_cons_succ]
            refine Till.takeA (i := 54) (oi := { dst := some 76, op := Op.load 9 (Operand.tmp 75), type := 9, pos := "law.go:18", after := #[{ on := 53, ground := Ground.data }, { on := 47, ground := Ground.guard }], guard := some (47, true) }) (v := .string x.name) rfl (by kernel_rfl) (by kernel_rfl) (by kernel_rfl) (by rfl) (fun _ _ _ h => h) (Or.inl ⟨by rfl, fun w0 hS0 => ?_⟩) (by assumption) ?_
            · obtain ⟨r0, r1, r2, r3, r4, r5, r6, r7⟩ := HCl.out _ (below_two HB3.out hS0); go_simp
            try simp only [Act.put, List.setIfInBounds_toArray, List.set_cons_zero, List.set_cons_succ]
            refine Till.takeA (i := 55) (oi := { dst := some 77, op := Op.fieldAddr 26 (Operand.tmp 5) 0, type := 0, pos := "law.go:18", after := #[{ on := 47, ground := Ground.guard }], guard := some (47, true) }) (v := .pointer (some ⟨w.heap.size + 1, 0, none⟩)) rfl (by kernel_rfl) (by kernel_rfl) (by kernel_rfl) (by rfl) (fun _ _ _ h => h) (Or.inl ⟨by rfl, fun w0 hS0 => ?_⟩) (by assumption) ?_
            · go_simp
            try simp only [Act.put, List.setIfInBounds_toArray, List.set_cons_zero, List.set_cons_succ]
            refine Till.takeA (i := 56) (oi := { dst := some 78, op := Op.load 9 (Operand.tmp 77), type := 9, pos := "law.go:18", after := #[{ on := 55, ground := Ground.data }, { on := 47, ground := Ground.guard }], guard := some (47, true) }) (v := .string y.name) rfl (by kernel_rfl) (by kernel_rfl) (by kernel_rfl) (by rfl) (fun _ _ _ h => h) (Or.inl ⟨by rfl, fun w0 hS0 => ?_⟩) (by assumption) ?_
            · obtain ⟨r0, r1, r2, r3, r4, r5, r6, r7⟩ := HCl.out _ (below_two HB3.out hS0); go_simp
            try simp only [Act.put, List.setIfInBounds_toArray, List.set_cons_zero, List.set_cons_succ]
            refine Till.next (i := 52) (o := { dst := some 74, op := Op.call { callee := Callee.value (Operand.func 15), args := #[Operand.tmp 71, Operand.tmp 73], argTypes := #[9, 9] }, type := 3, pos := "law.go:18", after := #[{ on := 49, ground := Ground.data }, { on := 51, ground := Ground.data }, { on := 47, ground := Ground.chain }, { on := 47, ground := Ground.guard }], guard := some (47, true) }) (by kernel_rfl) rfl (fun K hK => ?_)
            go_simp
            refine (HVp.out _ (below_two HBq.out hHeld7)).mono ?_
            rintro e w8 ⟨rfl, hb⟩
            have hHeld8 : Below w4.heap.size w4 w8 := below_two hHeld7 hb
            clear hb
            go_wp2_with fail
            refine hK.out _ _ (fun _ => hHeld8) ?_
            clear hK K
            try simp only [Act.put, List.setIfInBounds_toArray, List.set_cons_zero, List.set_cons_succ]
            refine Till.next (i := 57) (o := { dst := some 79, op := Op.call { callee := Callee.value (Operand.func 16), args := #[Operand.tmp 76, Operand.tmp 78], argTypes := #[9, 9] }, type := 3, pos := "law.go:18", after := #[{ on := 54, ground := Ground.data }, { on := 56, ground := Ground.data }, { on := 52, ground := Ground.chain }, { on := 47, ground := Ground.guard }], guard := some (47, true) }) (by kernel_rfl) rfl (fun K hK => ?_)
            go_simp
            refine (HVr.out _).mono ?_
            rintro e w9 ⟨rfl, hb⟩
            have hHeld9 : Below w4.heap.size w4 w9 := below_two hHeld8 hb
            clear hb
            go_wp2_with fail
            refine hK.out _ _ (fun _ => hHeld9) ?_
            clear hK K
            try simp only [Act.put, List.setIfInBounds_toArray, List.set_cons_zero, List.set_cons_succ]
            refine Till.takeA (i := 58) (oi := { dst := some 80, op := Op.binOp BinOp.eql 3 (Operand.tmp 74) (Operand.tmp 79) 3, type := 4, pos := "law.go:18", after := #[{ on := 52, ground := Ground.data }, { on := 57, ground := Ground.data }, { on := 47, ground := Ground.guard }], guard := some (47, true) }) (v := .bool true) rfl (by kernel_rfl) (by kernel_rfl) (by kernel_rfl) (by rfl) (fun _ _ _ h => h) (Or.inl ⟨by rfl, fun w0 hS0 => ?_⟩) (by assumption) ?_
            · go_simp
            try simp only [Act.put, List.setIfInBounds_toArray, List.set_cons_zero, List.set_cons_succ]
            refine Till.takeA (i := 59) (oi := { dst := some 81, op := Op.pick (Operand.tmp 69) (Operand.tmp 80) (Operand.const (Value.bool false)), type := 4, pos := "law.go:18", after := #[{ on := 47, ground := Ground.data }, { on := 58, ground := Ground.data }], guard := none }) (v := .bool true) rfl (by kernel_rfl) (by kernel_rfl) (by kernel_rfl) (by rfl) (fun _ _ _ h => h) (Or.inl ⟨by rfl, fun w0 hS0 => ?_⟩) (by assumption) ?_
            · go_simp
            try simp only [Act.put, List.setIfInBounds_toArray, List.set_cons_zero, List.set_cons_succ]
            refine Till.takeA (i := 60) (oi := { dst := some 6, op := Op.assign (Operand.tmp 81), type := 4, pos := "law.go:18", after := #[{ on := 59, ground := Ground.data }, { on := 57, ground := Ground.chain }, { on := 0, ground := Ground.phase }, { on := 1, ground := Ground.phase }, { on := 2, ground := Ground.phase }, { on := 3, ground := Ground.phase }, { on := 4, ground := Ground.phase }, { on := 5, ground := Ground.phase }, { on := 6, ground := Ground.phase }, { on := 7, ground := Ground.phase }, { on := 8, ground := Ground.phase }, { on := 9, ground := Ground.phase }, { on := 10, ground := Ground.phase }, { on := 11, ground := Ground.phase }, { on := 12, ground := Ground.phase }, { on := 13, ground := Ground.phase }, { on := 14, ground := Ground.phase }, { on := 15, ground := Ground.phase }, { on := 16, ground := Ground.phase }, { on := 17, ground := Ground.phase }, { on := 18, ground := Ground.phase }, { on := 19, ground := Ground.phase }, { on := 20, ground := Ground.phase }, { on := 21, ground := Ground.phase }, { on := 22, ground := Ground.phase }, { on := 23, ground := Ground.phase }, { on := 24, ground := Ground.phase }, { on := 25, ground := Ground.phase }, { on := 26, ground := Ground.phase }, { on := 27, ground := Ground.phase }, { on := 28, ground := Ground.phase }, { on := 29, ground := Ground.phase }, { on := 30, ground := Ground.phase }, { on := 31, ground := Ground.phase }, { on := 32, ground := Ground.phase }, { on := 33, ground := Ground.phase }, { on := 34, ground := Ground.phase }, { on := 35, ground := Ground.phase }, { on := 36, ground := Ground.phase }, { on := 37, ground := Ground.phase }, { on := 38, ground := Ground.phase }, { on := 39, ground := Ground.phase }, { on := 40, ground := Ground.phase }, { on := 41, ground := Ground.phase }, { on := 42, ground := Ground.phase }, { on := 43, ground := Ground.phase }, { on := 44, ground := Ground.phase }, { on := 45, ground := Ground.phase }, { on := 46, ground := Ground.phase }, { on := 47, ground := Ground.phase }, { on := 48, ground := Ground.phase }, { on := 49, ground := Ground.phase }, { on := 50, ground := Ground.phase }, { on := 51, ground := Ground.phase }, { on := 52, ground := Ground.phase }, { on := 53, ground := Ground.phase }, { on := 54, ground := Ground.phase }, { on := 55, ground := Ground.phase }, { on := 56, ground := Ground.phase }, { on := 57, ground := Ground.phase }, { on := 58, ground := Ground.phase }, { on := 59, ground := Ground.phase }], guard := none }) (v := .bool true) rfl (by kernel_rfl) (by kernel_rfl) (by kernel_rfl) (by rfl) (fun _ _ _ h => h) (Or.inl ⟨by rfl, fun w0 hS0 => ?_⟩) (by assumption) ?_
            · go_simp
            try simp only [Act.put, List.setIfInBounds_toArray, List.set_cons_zero, List.set_cons_succ]
            refine Till.done (by kernel_rfl) ?_
-- TILL 44 END
            go_wp2
            go_ret
            exact ⟨rfl, below_two HBq.out hHeld9⟩
          · have HTq := Lib.hid (show (x.time == y.time) = false from beq_eq_false_iff_ne.2 ht)
            have HZq := Lib.hid (show (C == 0) = false from beq_eq_false_iff_ne.2 (fun z => ht ((HIf.out.1 z).2.2 o2)))
            clear hne o1 o2 ht
-- TILL 45
            refine Till.region (z := 1000) (S := fun w' => Below w4.heap.size w4 w') (by kernel_rfl) ((Below.refl _ _).drew) (fun hHeld => ?_)
            refine Till.takeA (i := 0) (oi := { dst := some 22, op := Op.move (Operand.tmp 7), type := 3, pos := "law.go:18", after := #[], guard := none }) (v := .int .i64 C) rfl (by kernel_rfl) (by kernel_rfl) (by kernel_rfl) (by rfl) (fun _ _ _ h => h) (Or.inl ⟨by rfl, fun w0 hS0 => ?_⟩) (by assumption) ?_
            · go_simp
            try simp only [Act.put, List.setIfInBounds_toArray, List.set_cons_zero, List.set_cons_succ]
            refine Till.takeA (i := 1) (oi := { dst := some 23, op := Op.move (Operand.tmp 0), type := 3, pos := "law.go:18", after := #[], guard := none }) (v := .int .i64 o) rfl (by kernel_rfl) (by kernel_rfl) (by kernel_rfl) (by rfl) (fun _ _ _ h => h) (Or.inl ⟨by rfl, fun w0 hS0 => ?_⟩) (by assumption) ?_
            · go_simp
            try simp only [Act.put, List.setIfInBounds_toArray, List.set_cons_zero, List.set_cons_succ]
            refine Till.takeA (i := 2) (oi := { dst := some 24, op := Op.load 26 (Operand.tmp 4), type := 26, pos := "law.go:18", after := #[], guard := none }) (v := .agg #[.string x.name, .int .i64 x.size, .int .i64 x.time, .bool x.dir]) rfl (by kernel_rfl) (by kernel_rfl) (by kernel_rfl) (by rfl) (fun _ _ _ h => h) (Or.inl ⟨by rfl, fun w0 hS0 => ?_⟩) (by assumption) ?_
            · obtain ⟨r0, r1, r2, r3, r4, r5, r6, r7⟩ := HCl.out _ (below_two HB3.out hS0); go_simp
            try simp only [Act.put, List.setIfInBounds_toArray, List.set_cons_zero, List.set_cons_succ]
            refine Till.takeA (i := 3) (oi := { dst := some 25, op := Op.load 26 (Operand.tmp 5), type := 26, pos := "law.go:18", after := #[], guard := none }) (v := .agg #[.string y.name, .int .i64 y.size, .int .i64 y.time, .bool y.dir]) rfl (by kernel_rfl) (by kernel_rfl) (by kernel_rfl) (by rfl) (fun _ _ _ h => h) (Or.inl ⟨by rfl, fun w0 hS0 => ?_⟩) (by assumption) ?_
            · obtain ⟨r0, r1, r2, r3, r4, r5, r6, r7⟩ := HCl.out _ (below_two HB3.out hS0); go_simp
            try simp only [Act.put, List.setIfInBounds_toArray, List.set_cons_zero, List.set_cons_succ]
            refine Till.next (i := 4) (o := { dst := some 26, op := Op.call { callee := Callee.value (Operand.func 12), args := #[Operand.tmp 23, Operand.tmp 24, Operand.tmp 25], argTypes := #[3, 26, 26] }, type := 3, pos := "law.go:18", after := #[{ on := 1, ground := Ground.data }, { on := 2, ground := Ground.data }, { on := 3, ground := Ground.data }], guard := none }) (by kernel_rfl) rfl (fun K hK => ?_)
            go_simp
            refine (HRc.out _).mono ?_
            rintro e w5 ⟨rfl, hb⟩
            have hHeld5 : Below w4.heap.size w4 w5 := below_two hHeld hb
            clear hb
            go_wp2_with fail
            refine hK.out _ _ (fun _ => hHeld5) ?_
            clear hK K
            try simp only [Act.put, List.setIfInBounds_toArray, List.set_cons_zero, List.set_cons_succ]
            refine Till.takeA (i := 5) (oi := { dst := some 27, op := Op.binOp BinOp.eql 3 (Operand.tmp 22) (Operand.tmp 26) 3, type := 4, pos := "law.go:18", after := #[{ on := 0, ground := Ground.data }, { on := 4, ground := Ground.data }], guard := none }) (v := .bool true) rfl (by kernel_rfl) (by kernel_rfl) (by kernel_rfl) (by rfl) (fun _ _ _ h => h) (Or.inl ⟨by rfl, fun w0 hS0 => ?_⟩) (by assumption) ?_
            · go_simp
            try simp only [Act.put, List.setIfInBounds_toArray, List.set_cons_zero, List.set_cons_succ]
            refine Till.takeA (i := 6) (oi := { dst := some 28, op := Op.move (Operand.tmp 27), type := 4, pos := "law.go:18", after := #[{ on := 5, ground := Ground.data }, { on := 4, ground := Ground.chain }], guard := none }) (v := .bool true) rfl (by kernel_rfl) (by kernel_rfl) (by kernel_rfl) (by rfl) (fun _ _ _ h => h) (Or.inl ⟨by rfl, fun w0 hS0 => ?_⟩) (by assumption) ?_
            · go_simp
            try simp only [Act.put, List.setIfInBounds_toArray, List.set_cons_zero, List.set_cons_succ]
            refine Till.takeA (i := 7) (oi := { dst := some 29, op := Op.move (Operand.tmp 7), type := 3, pos := "law.go:18", after := #[{ on := 6, ground := Ground.guard }], guard := some (6, true) }) (v := .int .i64 C) rfl (by kernel_rfl) (by kernel_rfl) (by kernel_rfl) (by rfl) (fun _ _ _ h => h) (Or.inl ⟨by rfl, fun w0 hS0 => ?_⟩) (by assumption) ?_
            · go_simp
            try simp only [Act.put, List.setIfInBounds_toArray, List.set_cons_zero, List.set_cons_succ]
            refine Till.takeA (i := 8) (oi := { dst := some 30, op := Op.binOp BinOp.eql 3 (Operand.tmp 29) (Operand.const (Value.int IntKind.i64 0)) 3, type := 4, pos := "law.go:18", after := #[{ on := 7, ground := Ground.data }, { on := 6, ground := Ground.guard }], guard := some (6, true) }) (v := .bool false) rfl (by kernel_rfl) (by kernel_rfl) (by kernel_rfl) (by rfl) (fun _ _ _ h => h) (Or.inl ⟨by rfl, fun w0 hS0 => ?_⟩) (by assumption) ?_
            · have hq := HZq.out; go_simp
            try simp only [Act.put, List.setIfInBounds_toArray, List.set_cons_zero, List.set_cons_succ]
            refine Till.takeA (i := 9) (oi := { dst := some 31, op := Op.fieldAddr 26 (Operand.tmp 4) 0, type := 0, pos := "law.go:18", after := #[{ on := 6, ground := Ground.guard }], guard := some (6, true) }) (v := .pointer (some ⟨w.heap.size, 0, none⟩)) rfl (by kernel_rfl) (by kernel_rfl) (by kernel_rfl) (by rfl) (fun _ _ _ h => h) (Or.inl ⟨by rfl, fun w0 hS0 => ?_⟩) (by assumption) ?_
            · go_simp
            try simp only [Act.put, List.setIfInBounds_toArray, List.set_cons_zero, List.set_cons_succ]
            refine Till.takeA (i := 10) (oi := { dst := some 32, op := Op.load 9 (Operand.tmp 31), type := 9, pos := "law.go:18", after := #[{ on := 9, ground := Ground.data }, { on := 6, ground := Ground.guard }], guard := some (6, true) }) (v := .string x.name) rfl (by kernel_rfl) (by kernel_rfl) (by kernel_rfl) (by rfl) (fun _ _ _ h => h) (Or.inl ⟨by rfl, fun w0 hS0 => ?_⟩) (by assumption) ?_
            · obtain ⟨r0, r1, r2, r3, r4, r5, r6, r7⟩ := HCl.out _ (below_two HB3.out hS0); go_simp
            try simp only [Act.put, List.setIfInBounds_toArray, List.set_cons_zero, List.set_cons_succ]
            refine Till.takeA (i := 11) (oi := { dst := some 33, op := Op.fieldAddr 26 (Operand.tmp 5) 0, type := 0, pos := "law.go:18", after := #[{ on := 6, ground := Ground.guard }], guard := some (6, true) }) (v := .pointer (some ⟨w.heap.size + 1, 0, none⟩)) rfl (by kernel_rfl) (by kernel_rfl) (by kernel_rfl) (by rfl) (fun _ _ _ h => h) (Or.inl ⟨by rfl, fun w0 hS0 => ?_⟩) (by assumption) ?_
            · go_simp
            try simp only [Act.put, List.setIfInBounds_toArray, List.set_cons_zero, List.set_cons_succ]
            refine Till.takeA (i := 12) (oi := { dst := some 34, op := Op.load 9 (Operand.tmp 33), type := 9, pos := "law.go:18", after := #[{ on := 11, ground := Ground.data }, { on := 6, ground := Ground.guard }], guard := some (6, true) }) (v := .string y.name) rfl (by kernel_rfl) (by kernel_rfl) (by kernel_rfl) (by rfl) (fun _ _ _ h => h) (Or.inl ⟨by rfl, fun w0 hS0 => ?_⟩) (by assumption) ?_
            · obtain ⟨r0, r1, r2, r3, r4, r5, r6, r7⟩ := HCl.out _ (below_two HB3.out hS0); go_simp
            try simp only [Act.put, List.setIfInBounds_toArray, List.set_cons_zero, List.set_cons_succ]
            refine Till.takeA (i := 13) (oi := { dst := some 35, op := Op.binOp BinOp.eql 9 (Operand.tmp 32) (Operand.tmp 34) 9, type := 4, pos := "law.go:18", after := #[{ on := 10, ground := Ground.data }, { on := 12, ground := Ground.data }, { on := 6, ground := Ground.guard }], guard := some (6, true) }) (v := .bool true) rfl (by kernel_rfl) (by kernel_rfl) (by kernel_rfl) (by rfl) (fun _ _ _ h => h) (Or.inl ⟨by rfl, fun w0 hS0 => ?_⟩) (by assumption) ?_
            · obtain ⟨hq1, hq2, hq3⟩ := HNq.out; go_simp
            try simp only [Act.put, List.setIfInBounds_toArray, List.set_cons_zero, List.set_cons_succ]
            refine Till.takeA (i := 14) (oi := { dst := some 36, op := Op.move (Operand.tmp 35), type := 4, pos := "law.go:18", after := #[{ on := 13, ground := Ground.data }, { on := 6, ground := Ground.chain }, { on := 6, ground := Ground.guard }], guard := some (6, true) }) (v := .bool true) rfl (by kernel_rfl) (by kernel_rfl) (by kernel_rfl) (by rfl) (fun _ _ _ h => h) (Or.inl ⟨by rfl, fun w0 hS0 => ?_⟩) (by assumption) ?_
            · go_simp
            try simp only [Act.put, List.setIfInBounds_toArray, List.set_cons_zero, List.set_cons_succ]
            refine Till.takeA (i := 15) (oi := { dst := some 37, op := Op.move (Operand.tmp 0), type := 3, pos := "law.go:18", after := #[{ on := 14, ground := Ground.guard }], guard := some (14, true) }) (v := .int .i64 o) rfl (by kernel_rfl) (by kernel_rfl) (by kernel_rfl) (by rfl) (fun _ _ _ h => h) (Or.inl ⟨by rfl, fun w0 hS0 => ?_⟩) (by assumption) ?_
            · go_simp
            try simp only [Act.put, List.setIfInBounds_toArray, List.set_cons_zero, List.set_cons_succ]
            refine Till.takeA (i := 16) (oi := { dst := some 38, op := Op.binOp BinOp.neq 3 (Operand.tmp 37) (Operand.const (Value.int IntKind.i64 1)) 3, type := 4, pos := "law.go:18", after := #[{ on := 15, ground := Ground.data }, { on := 14, ground := Ground.guard }], guard := some (14, true) }) (v := .bool true) rfl (by kernel_rfl) (by kernel_rfl) (by kernel_rfl) (by rfl) (fun _ _ _ h => h) (Or.inl ⟨by rfl, fun w0 hS0 => ?_⟩) (by assumption) ?_
            · have hq := HO1.out; go_simp
            try simp only [Act.put, List.setIfInBounds_toArray, List.set_cons_zero, List.set_cons_succ]
            refine Till.takeA (i := 17) (oi := { dst := some 39, op := Op.move (Operand.tmp 38), type := 4, pos := "law.go:18", after := #[{ on := 16, ground := Ground.data }, { on := 14, ground := Ground.chain }, { on := 14, ground := Ground.guard }], guard := some (14, true) }) (v := .bool true) rfl (by kernel_rfl) (by kernel_rfl) (by kernel_rfl) (by rfl) (fun _ _ _ h => h) (Or.inl ⟨by rfl, fun w0 hS0 => ?_⟩) (by assumption) ?_
            · go_simp
            try simp only [Act.put, List.setIfInBounds_toArray, List.set_cons_zero, List.set_cons_succ]
            refine Till.takeA (i := 18) (oi := { dst := some 40, op := Op.fieldAddr 26 (Operand.tmp 4) 1, type := 0, pos := "law.go:18", after := #[{ on := 17, ground := Ground.guard }], guard := some (17, false) }) (v := undef) rfl (by kernel_rfl) (by kernel_rfl) (by kernel_rfl) (by rfl) (fun _ _ _ h => h) (Or.inr ⟨by rfl, rfl⟩) (by assumption) ?_
            try simp only [Act.put, List.setIfInBounds_toArray, List.set_cons_zero, List.set_cons_succ]
            refine Till.takeA (i := 19) (oi := { dst := some 41, op := Op.load 2 (Operand.tmp 40), type := 2, pos := "law.go:18", after := #[{ on := 18, ground := Ground.data }, { on := 17, ground := Ground.guard }], guard := some (17, false) }) (v := undef) rfl (by kernel_rfl) (by kernel_rfl) (by kernel_rfl) (by rfl) (fun _ _ _ h => h) (Or.inr ⟨by rfl, rfl⟩) (by assumption) ?_
            try simp only [Act.put, List.setIfInBounds_toArray, List.set_cons_zero, List.set_cons_succ]
            refine Till.takeA (i := 20) (oi := { dst := some 42, op := Op.fieldAddr 26 (Operand.tmp 5) 1, type := 0, pos := "law.go:18", after := #[{ on := 17, ground := Ground.guard }], guard := some (17, false) }) (v := undef) rfl (by kernel_rfl) (by kernel_rfl) (by kernel_rfl) (by rfl) (fun _ _ _ h => h) (Or.inr ⟨by rfl, rfl⟩) (by assumption) ?_
            try simp only [Act.put, List.setIfInBounds_toArray, List.set_cons_zero, List.set_cons_succ]
            refine Till.takeA (i := 21) (oi := { dst := some 43, op := Op.load 2 (Operand.tmp 42), type := 2, pos := "law.go:18", after := #[{ on := 20, ground := Ground.data }, { on := 17, ground := Ground.guard }], guard := some (17, false) }) (v := undef) rfl (by kernel_rfl) (by kernel_rfl) (by kernel_rfl) (by rfl) (fun _ _ _ h => h) (Or.inr ⟨by rfl, rfl⟩) (by assumption) ?_
            try simp only [Act.put, List.setIfInBounds_toArray, List.set_cons_zero, List.set_cons_succ]
            refine Till.takeA (i := 22) (oi := { dst := some 44, op := Op.binOp BinOp.eql 2 (Operand.tmp 41) (Operand.tmp 43) 2, type := 4, pos := "law.go:18", after := #[{ on := 19, ground := Ground.data }, { on := 21, ground := Ground.data }, { on := 17, ground := Ground.guard }], guard := some (17, false) }) (v := undef) rfl (by kernel_rfl) (by kernel_rfl) (by kernel_rfl) (by rfl) (fun _ _ _ h => h) (Or.inr ⟨by rfl, rfl⟩) (by assumption) ?_
            try simp only [Act.put, List.setIfInBounds_toArray, List.set_cons_zero, List.set_cons_succ]
            refine Till.takeA (i := 23) (oi := { dst := some 45, op := Op.pick (Operand.tmp 39) (Operand.const (Value.bool true)) (Operand.tmp 44), type := 4, pos := "law.go:18", after := #[{ on := 17, ground := Ground.data }, { on := 22, ground := Ground.data }, { on := 14, ground := Ground.guard }], guard := some (14, true) }) (v := .bool true) rfl (by kernel_rfl) (by kernel_rfl) (by kernel_rfl) (by rfl) (fun _ _ _ h => h) (Or.inl ⟨by rfl, fun w0 hS0 => ?_⟩) (by assumption) ?_
            · go_simp
            try simp only [Act.put, List.setIfInBounds_toArray, List.set_cons_zero, List.set_cons_succ]
            refine Till.takeA (i := 24) (oi := { dst := some 46, op := Op.pick (Operand.tmp 36) (Operand.tmp 45) (Operand.const (Value.bool false)), type := 4, pos := "law.go:18", after := #[{ on := 14, ground := Ground.data }, { on := 23, ground := Ground.data }, { on := 6, ground := Ground.guard }], guard := some (6, true) }) (v := .bool true) rfl (by kernel_rfl) (by kernel_rfl) (by kernel_rfl) (by rfl) (fun _ _ _ h => h) (Or.inl ⟨by rfl, fun w0 hS0 => ?_⟩) (by assumption) ?_
            · go_simp
            try simp only [Act.put, List.setIfInBounds_toArray, List.set_cons_zero, List.set_cons_succ]
            refine Till.takeA (i := 25) (oi := { dst := some 47, op := Op.move (Operand.tmp 46), type := 4, pos := "law.go:18", after := #[{ on := 24, ground := Ground.data }, { on := 17, ground := Ground.chain }, { on := 6, ground := Ground.guard }], guard := some (6, true) }) (v := .bool true) rfl (by kernel_rfl) (by kernel_rfl) (by kernel_rfl) (by rfl) (fun _ _ _ h => h) (Or.inl ⟨by rfl, fun w0 hS0 => ?_⟩) (by assumption) ?_
            · go_simp
            try simp only [Act.put, List.setIfInBounds_toArray, List.set_cons_zero, List.set_cons_succ]
            refine Till.takeA (i := 26) (oi := { dst := some 48, op := Op.move (Operand.tmp 0), type := 3, pos := "law.go:18", after := #[{ on := 25, ground := Ground.guard }], guard := some (25, true) }) (v := .int .i64 o) rfl (by kernel_rfl) (by kernel_rfl) (by kernel_rfl) (by rfl) (fun _ _ _ h => h) (Or.inl ⟨by rfl, fun w0 hS0 => ?_⟩) (by assumption) ?_
            · go_simp
            try simp only [Act.put, List.setIfInBounds_toArray, List.set_cons_zero, List.set_cons_succ]
            refine Till.takeA (i := 27) (oi := { dst := some 49, op := Op.binOp BinOp.neq 3 (Operand.tmp 48) (Operand.const (Value.int IntKind.i64 2)) 3, type := 4, pos := "law.go:18", after := #[{ on := 26, ground := Ground.data }, { on := 25, ground := Ground.guard }], guard := some (25, true) }) (v := .bool false) rfl (by kernel_rfl) (by kernel_rfl) (by kernel_rfl) (by rfl) (fun _ _ _ h => h) (Or.inl ⟨by rfl, fun w0 hS0 => ?_⟩) (by assumption) ?_
            · have hq := HO2.out; go_simp
            try simp only [Act.put, List.setIfInBounds_toArray, List.set_cons_zero, List.set_cons_succ]
            refine Till.takeA (i := 28) (oi := { dst := some 50, op := Op.move (Operand.tmp 49), type := 4, pos := "law.go:18", after := #[{ on := 27, ground := Ground.data }, { on := 25, ground := Ground.chain }, { on := 25, ground := Ground.guard }], guard := some (25, true) }) (v := .bool false) rfl (by kernel_rfl) (by kernel_rfl) (by kernel_rfl) (by rfl) (fun _ _ _ h => h) (Or.inl ⟨by rfl, fun w0 hS0 => ?_⟩) (by assumption) ?_
            · go_simp
            try simp only [Act.put, List.setIfInBounds_toArray, List.set_cons_zero, List.set_cons_succ]
            refine Till.takeA (i := 29) (oi := { dst := some 51, op := Op.fieldAddr 26 (Operand.tmp 4) 2, type := 0, pos := "law.go:18", after := #[{ on := 28, ground := Ground.guard }], guard := some (28, false) }) (v := .pointer (some ⟨w.heap.size, 2, none⟩)) rfl (by kernel_rfl) (by kernel_rfl) (by kernel_rfl) (by rfl) (fun _ _ _ h => h) (Or.inl ⟨by rfl, fun w0 hS0 => ?_⟩) (by assumption) ?_
            · go_simp
            try simp only [Act.put, List.setIfInBounds_toArray, List.set_cons_zero, List.set_cons_succ]
            refine Till.takeA (i := 30) (oi := { dst := some 52, op := Op.load 2 (Operand.tmp 51), type := 2, pos := "law.go:18", after := #[{ on := 29, ground := Ground.data }, { on := 28, ground := Ground.guard }], guard := some (28, false) }) (v := .int .i64 x.time) rfl (by kernel_rfl) (by kernel_rfl) (by kernel_rfl) (by rfl) (fun _ _ _ h => h) (Or.inl ⟨by rfl, fun w0 hS0 => ?_⟩) (by assumption) ?_
            · obtain ⟨r0, r1, r2, r3, r4, r5, r6, r7⟩ := HCl.out _ (below_two HB3.out hS0); go_simp
            try simp only [Act.put, List.setIfInBounds_toArray, List.set_cons_zero, List.set_cons_succ]
            refine Till.takeA (i := 31) (oi := { dst := some 53, op := Op.fieldAddr 26 (Operand.tmp 5) 2, type := 0, pos := "law.go:18", after := #[{ on := 28, ground := Ground.guard }], guard := some (28, false) }) (v := .pointer (some ⟨w.heap.size + 1, 2, none⟩)) rfl (by kernel_rfl) (by kernel_rfl) (by kernel_rfl) (by rfl) (fun _ _ _ h => h) (Or.inl ⟨by rfl, fun w0 hS0 => ?_⟩) (by assumption) ?_
            · go_simp
            try simp only [Act.put, List.setIfInBounds_toArray, List.set_cons_zero, List.set_cons_succ]
            refine Till.takeA (i := 32) (oi := { dst := some 54, op := Op.load 2 (Operand.tmp 53), type := 2, pos := "law.go:18", after := #[{ on := 31, ground := Ground.data }, { on := 28, ground := Ground.guard }], guard := some (28, false) }) (v := .int .i64 y.time) rfl (by kernel_rfl) (by kernel_rfl) (by kernel_rfl) (by rfl) (fun _ _ _ h => h) (Or.inl ⟨by rfl, fun w0 hS0 => ?_⟩) (by assumption) ?_
            · obtain ⟨r0, r1, r2, r3, r4, r5, r6, r7⟩ := HCl.out _ (below_two HB3.out hS0); go_simp
            try simp only [Act.put, List.setIfInBounds_toArray, List.set_cons_zero, List.set_cons_succ]
            refine Till.takeA (i := 33) (oi := { dst := some 55, op := Op.binOp BinOp.eql 2 (Operand.tmp 52) (Operand.tmp 54) 2, type := 4, pos := "law.go:18", after := #[{ on := 30, ground := Ground.data }, { on := 32, ground := Ground.data }, { on := 28, ground := Ground.guard }], guard := some (28, false) }) (v := .bool false) rfl (by kernel_rfl) (by kernel_rfl) (by kernel_rfl) (by rfl) (fun _ _ _ h => h) (Or.inl ⟨by rfl, fun w0 hS0 => ?_⟩) (by assumption) ?_
            · have hq := HTq.out; go_simp
            try simp only [Act.put, List.setIfInBounds_toArray, List.set_cons_zero, List.set_cons_succ]
            refine Till.takeA (i := 34) (oi := { dst := some 56, op := Op.pick (Operand.tmp 50) (Operand.const (Value.bool true)) (Operand.tmp 55), type := 4, pos := "law.go:18", after := #[{ on := 28, ground := Ground.data }, { on := 33, ground := Ground.data }, { on := 25, ground := Ground.guard }], guard := some (25, true) }) (v := .bool false) rfl (by kernel_rfl) (by kernel_rfl) (by kernel_rfl) (by rfl) (fun _ _ _ h => h) (Or.inl ⟨by rfl, fun w0 hS0 => ?_⟩) (by assumption) ?_
            · go_simp
            try simp only [Act.put, List.setIfInBounds_toArray, List.set_cons_zero, List.set_cons_succ]
            refine Till.takeA (i := 35) (oi := { dst := some 57, op := Op.pick (Operand.tmp 47) (Operand.tmp 56) (Operand.const (Value.bool false)), type := 4, pos := "law.go:18", after := #[{ on := 25, ground := Ground.data }, { on := 34, ground := Ground.data }, { on := 6, ground := Ground.guard }], guard := some (6, true) }) (v := .bool false) rfl (by kernel_rfl) (by kernel_rfl) (by kernel_rfl) (by rfl) (fun _ _ _ h => h) (Or.inl ⟨by rfl, fun w0 hS0 => ?_⟩) (by assumption) ?_
            · go_simp
            try simp only [Act.put, List.setIfInBounds_toArray, List.set_cons_zero, List.set_cons_succ]
            refine Till.takeA (i := 36) (oi := { dst := some 58, op := Op.binOp BinOp.eql 4 (Operand.tmp 30) (Operand.tmp 57) 4, type := 4, pos := "law.go:18", after := #[{ on := 8, ground := Ground.data }, { on := 35, ground := Ground.data }, { on := 6, ground := Ground.guard }], guard := some (6, true) }) (v := .bool true) rfl (by kernel_rfl) (by kernel_rfl) (by kernel_rfl) (by rfl) (fun _ _ _ h => h) (Or.inl ⟨by rfl, fun w0 hS0 => ?_⟩) (by assumption) ?_
            · go_simp
            try simp only [Act.put, List.setIfInBounds_toArray, List.set_cons_zero, List.set_cons_succ]
            refine Till.takeA (i := 37) (oi := { dst := some 59, op := Op.pick (Operand.tmp 28) (Operand.tmp 58) (Operand.const (Value.bool false)), type := 4, pos := "law.go:18", after := #[{ on := 6, ground := Ground.data }, { on := 36, ground := Ground.data }], guard := none }) (v := .bool true) rfl (by kernel_rfl) (by kernel_rfl) (by kernel_rfl) (by rfl) (fun _ _ _ h => h) (Or.inl ⟨by rfl, fun w0 hS0 => ?_⟩) (by assumption) ?_
            · go_simp
            try simp only [Act.put, List.setIfInBounds_toArray, List.set_cons_zero, List.set_cons_succ]
            refine Till.takeA (i := 38) (oi := { dst := some 60, op := Op.move (Operand.tmp 59), type := 4, pos := "law.go:18", after := #[{ on := 37, ground := Ground.data }, { on := 28, ground := Ground.chain }], guard := none }) (v := .bool true) rfl (by kernel_rfl) (by kernel_rfl) (by kernel_rfl) (by rfl) (fun _ _ _ h => h) (Or.inl ⟨by rfl, fun w0 hS0 => ?_⟩) (by assumption) ?_
            · go_simp
            try simp only [Act.put, List.setIfInBounds_toArray, List.set_cons_zero, List.set_cons_succ]
            refine Till.takeA (i := 39) (oi := { dst := some 61, op := Op.fieldAddr 26 (Operand.tmp 4) 0, type := 0, pos := "law.go:18", after := #[{ on := 38, ground := Ground.guard }], guard := some (38, true) }) (v := .pointer (some ⟨w.heap.size, 0, none⟩)) rfl (by kernel_rfl) (by kernel_rfl) (by kernel_rfl) (by rfl) (fun _ _ _ h => h) (Or.inl ⟨by rfl, fun w0 hS0 => ?_⟩) (by assumption) ?_
            · go_simp
            try simp only [Act.put, List.setIfInBounds_toArray, List.set_cons_zero, List.set_cons_succ]
            refine Till.takeA (i := 40) (oi := { dst := some 62, op := Op.load 9 (Operand.tmp 61), type := 9, pos := "law.go:18", after := #[{ on := 39, ground := Ground.data }, { on := 38, ground := Ground.guard }], guard := some (38, true) }) (v := .string x.name) rfl (by kernel_rfl) (by kernel_rfl) (by kernel_rfl) (by rfl) (fun _ _ _ h => h) (Or.inl ⟨by rfl, fun w0 hS0 => ?_⟩) (by assumption) ?_
            · obtain ⟨r0, r1, r2, r3, r4, r5, r6, r7⟩ := HCl.out _ (below_two HB3.out hS0); go_simp
            try simp only [Act.put, List.setIfInBounds_toArray, List.set_cons_zero, List.set_cons_succ]
            refine Till.takeA (i := 42) (oi := { dst := some 64, op := Op.fieldAddr 26 (Operand.tmp 4) 0, type := 0, pos := "law.go:18", after := #[{ on := 38, ground := Ground.guard }], guard := some (38, true) }) (v := .pointer (some ⟨w.heap.size, 0, none⟩)) rfl (by kernel_rfl) (by kernel_rfl) (by kernel_rfl) (by rfl) (fun _ _ _ h => h) (Or.inl ⟨by rfl, fun w0 hS0 => ?_⟩) (by assumption) ?_
            · go_simp
            try simp only [Act.put, List.setIfInBounds_toArray, List.set_cons_zero, List.set_cons_succ]
            refine Till.takeA (i := 43) (oi := { dst := some 65, op := Op.load 9 (Operand.tmp 64), type := 9, pos := "law.go:18", after := #[{ on := 42, ground := Ground.data }, { on := 38, ground := Ground.guard }], guard := some (38, true) }) (v := .string x.name) rfl (by kernel_rfl) (by kernel_rfl) (by kernel_rfl) (by rfl) (fun _ _ _ h => h) (Or.inl ⟨by rfl, fun w0 hS0 => ?_⟩) (by assumption) ?_
            · obtain ⟨r0, r1, r2, r3, r4, r5, r6, r7⟩ := HCl.out _ (below_two HB3.out hS0); go_simp
            try simp only [Act.put, List.setIfInBounds_toArray, List.set_cons_zero, List.set_cons_succ]
            refine Till.next (i := 41) (o := { dst := some 63, op := Op.call { callee := Callee.value (Operand.func 13), args := #[Operand.tmp 62], argTypes := #[9] }, type := 9, pos := "law.go:18", after := #[{ on := 40, ground := Ground.data }, { on := 38, ground := Ground.chain }, { on := 38, ground := Ground.guard }], guard := some (38, true) }) (by kernel_rfl) rfl (fun K hK => ?_)
            go_simp
            refine (HEp.out _ (below_two HBq.out hHeld5)).mono ?_
            rintro e w6 ⟨rfl, hb⟩
            have hHeld6 : Below w4.heap.size w4 w6 := below_two hHeld5 hb
            clear hb
            go_wp2_with fail
            refine hK.out _ _ (fun _ => hHeld6) ?_
            clear hK K
            try simp only [Act.put, List.setIfInBounds_toArray, List.set_cons_zero, List.set_cons_succ]
            refine Till.next (i := 44) (o := { dst := some 66, op := Op.call { callee := Callee.value (Operand.func 14), args := #[Operand.tmp 65], argTypes := #[9] }, type := 9, pos := "law.go:18", after := #[{ on := 43, ground := Ground.data }, { on := 41, ground := Ground.chain }, { on := 38, ground := Ground.guard }], guard := some (38, true) }) (by kernel_rfl) rfl (fun K hK => ?_)
            go_simp
            refine (HEr.out _).mono ?_
            rintro e w7 ⟨rfl, hb⟩
            have hHeld7 : Below w4.heap.size w4 w7 := by rw [← hb]; exact hHeld6
            clear hb
            go_wp2_with fail
            refine hK.out _ _ (fun _ => hHeld7) ?_
            clear hK K
            try simp only [Act.put, List.setIfInBounds_toArray, List.set_cons_zero, List.set_cons_succ]
            refine Till.takeA (i := 45) (oi := { dst := some 67, op := Op.binOp BinOp.eql 9 (Operand.tmp 63) (Operand.tmp 66) 9, type := 4, pos := "law.go:18", after := #[{ on := 41, ground := Ground.data }, { on := 44, ground := Ground.data }, { on := 38, ground := Ground.guard }], guard := some (38, true) }) (v := .bool true) rfl (by kernel_rfl) (by kernel_rfl) (by kernel_rfl) (by rfl) (fun _ _ _ h => h) (Or.inl ⟨by rfl, fun w0 hS0 => ?_⟩) (by assumption) ?_
            · go_simp
            try simp only [Act.put, List.setIfInBounds_toArray, List.set_cons_zero, List.set_cons_succ]
            refine Till.takeA (i := 46) (oi := { dst := some 68, op := Op.pick (Operand.tmp 60) (Operand.tmp 67) (Operand.const (Value.bool false)), type := 4, pos := "law.go:18", after := #[{ on := 38, ground := Ground.data }, { on := 45, ground := Ground.data }], guard := none }) (v := .bool true) rfl (by kernel_rfl) (by kernel_rfl) (by kernel_rfl) (by rfl) (fun _ _ _ h => h) (Or.inl ⟨by rfl, fun w0 hS0 => ?_⟩) (by assumption) ?_
            · go_simp
            try simp only [Act.put, List.setIfInBounds_toArray, List.set_cons_zero, List.set_cons_succ]
            refine Till.takeA (i := 47) (oi := { dst := some 69, op := Op.move (Operand.tmp 68), type := 4, pos := "law.go:18", after := #[{ on := 46, ground := Ground.data }, { on := 44, ground := Ground.chain }], guard := none }) (v := .bool true) rfl (by kernel_rfl) (by kernel_rfl) (by kernel_rfl) (by rfl) (fun _ _ _ h => h) (Or.inl ⟨by rfl, fun w0 hS0 => ?_⟩) (by assumption) ?_
            · go_simp
            try simp only [Act.put, List.setIfInBounds_toArray, List.set_cons_zero, List.set_cons_succ]
            refine Till.takeA (i := 48) (oi := { dst := some 70, op := Op.fieldAddr 26 (Operand.tmp 4) 0, type := 0, pos := "law.go:18", after := #[{ on := 47, ground := Ground.guard }], guard := some (47, true) }) (v := .pointer (some ⟨w.heap.size, 0, none⟩)) rfl (by kernel_rfl) (by kernel_rfl) (by kernel_rfl) (by rfl) (fun _ _ _ h => h) (Or.inl ⟨by rfl, fun w0 hS0 => ?_⟩) (by assumption) ?_
            · go_simp
            try simp only [Act.put, List.setIfInBounds_toArray, List.set_cons_zero, List.set_cons_succ]
            refine Till.takeA (i := 49) (oi := { dst := some 71, op := Op.load 9 (Operand.tmp 70), type := 9, pos := "law.go:18", after := #[{ on := 48, ground := Ground.data }, { on := 47, ground := Ground.guard }], guard := some (47, true) }) (v := .string x.name) rfl (by kernel_rfl) (by kernel_rfl) (by kernel_rfl) (by rfl) (fun _ _ _ h => h) (Or.inl ⟨by rfl, fun w0 hS0 => ?_⟩) (by assumption) ?_
            · obtain ⟨r0, r1, r2, r3, r4, r5, r6, r7⟩ := HCl.out _ (below_two HB3.out hS0); go_simp
            try simp only [Act.put, List.setIfInBounds_toArray, List.set_cons_zero, List.set_cons_succ]
            refine Till.takeA (i := 50) (oi := { dst := some 72, op := Op.fieldAddr 26 (Operand.tmp 5) 0, type := 0, pos := "law.go:18", after := #[{ on := 47, ground := Ground.guard }], guard := some (47, true) }) (v := .pointer (some ⟨w.heap.size + 1, 0, none⟩)) rfl (by kernel_rfl) (by kernel_rfl) (by kernel_rfl) (by rfl) (fun _ _ _ h => h) (Or.inl ⟨by rfl, fun w0 hS0 => ?_⟩) (by assumption) ?_
            · go_simp
            try simp only [Act.put, List.setIfInBounds_toArray, List.set_cons_zero, List.set_cons_succ]
            refine Till.takeA (i := 51) (oi := { dst := some 73, op := Op.load 9 (Operand.tmp 72), type := 9, pos := "law.go:18", after := #[{ on := 50, ground := Ground.data }, { on := 47, ground := Ground.guard }], guard := some (47, true) }) (v := .string y.name) rfl (by kernel_rfl) (by kernel_rfl) (by kernel_rfl) (by rfl) (fun _ _ _ h => h) (Or.inl ⟨by rfl, fun w0 hS0 => ?_⟩) (by assumption) ?_
            · obtain ⟨r0, r1, r2, r3, r4, r5, r6, r7⟩ := HCl.out _ (below_two HB3.out hS0); go_simp
            try simp only [Act.put, List.setIfInBounds_toArray, List.set_cons_zero, List.set_cons_succ]
            refine Till.takeA (i := 53) (oi := { dst := some 75, op := Op.fieldAddr 26 (Operand.tmp 4) 0, type := 0, pos := "law.go:18", after := #[{ on := 47, ground := Ground.guard }], guard := some (47, true) }) (v := .pointer (some ⟨w.heap.size, 0, none⟩)) rfl (by kernel_rfl) (by kernel_rfl) (by kernel_rfl) (by rfl) (fun _ _ _ h => h) (Or.inl ⟨by rfl, fun w0 hS0 => ?_⟩) (by assumption) ?_
            · go_simp
            try simp only [Act.put, List.setIfInBounds_toArray, List.set_cons_zero, List.set_cons_succ]
            refine Till.takeA (i := 54) (oi := { dst := some 76, op := Op.load 9 (Operand.tmp 75), type := 9, pos := "law.go:18", after := #[{ on := 53, ground := Ground.data }, { on := 47, ground := Ground.guard }], guard := some (47, true) }) (v := .string x.name) rfl (by kernel_rfl) (by kernel_rfl) (by kernel_rfl) (by rfl) (fun _ _ _ h => h) (Or.inl ⟨by rfl, fun w0 hS0 => ?_⟩) (by assumption) ?_
            · obtain ⟨r0, r1, r2, r3, r4, r5, r6, r7⟩ := HCl.out _ (below_two HB3.out hS0); go_simp
            try simp only [Act.put, List.setIfInBounds_toArray, List.set_cons_zero, List.set_cons_succ]
            refine Till.takeA (i := 55) (oi := { dst := some 77, op := Op.fieldAddr 26 (Operand.tmp 5) 0, type := 0, pos := "law.go:18", after := #[{ on := 47, ground := Ground.guard }], guard := some (47, true) }) (v := .pointer (some ⟨w.heap.size + 1, 0, none⟩)) rfl (by kernel_rfl) (by kernel_rfl) (by kernel_rfl) (by rfl) (fun _ _ _ h => h) (Or.inl ⟨by rfl, fun w0 hS0 => ?_⟩) (by assumption) ?_
            · go_simp
            try simp only [Act.put, List.setIfInBounds_toArray, List.set_cons_zero, List.set_cons_succ]
            refine Till.takeA (i := 56) (oi := { dst := some 78, op := Op.load 9 (Operand.tmp 77), type := 9, pos := "law.go:18", after := #[{ on := 55, ground := Ground.data }, { on := 47, ground := Ground.guard }], guard := some (47, true) }) (v := .string y.name) rfl (by kernel_rfl) (by kernel_rfl) (by kernel_rfl) (by rfl) (fun _ _ _ h => h) (Or.inl ⟨by rfl, fun w0 hS0 => ?_⟩) (by assumption) ?_
            · obtain ⟨r0, r1, r2, r3, r4, r5, r6, r7⟩ := HCl.out _ (below_two HB3.out hS0); go_simp
            try simp only [Act.put, List.setIfInBounds_toArray, List.set_cons_zero, List.set_cons_succ]
            refine Till.next (i := 52) (o := { dst := some 74, op := Op.call { callee := Callee.value (Operand.func 15), args := #[Operand.tmp 71, Operand.tmp 73], argTypes := #[9, 9] }, type := 3, pos := "law.go:18", after := #[{ on := 49, ground := Ground.data }, { on := 51, ground := Ground.data }, { on := 47, ground := Ground.chain }, { on := 47, ground := Ground.guard }], guard := some (47, true) }) (by kernel_rfl) rfl (fun K hK => ?_)
            go_simp
            refine (HVp.out _ (below_two HBq.out hHeld7)).mono ?_
            rintro e w8 ⟨rfl, hb⟩
            have hHeld8 : Below w4.heap.size w4 w8 := below_two hHeld7 hb
            clear hb
            go_wp2_with fail
            refine hK.out _ _ (fun _ => hHeld8) ?_
            clear hK K
            try simp only [Act.put, List.setIfInBounds_toArray, List.set_cons_zero, List.set_cons_succ]
            refine Till.next (i := 57) (o := { dst := some 79, op := Op.call { callee := Callee.value (Operand.func 16), args := #[Operand.tmp 76, Operand.tmp 78], argTypes := #[9, 9] }, type := 3, pos := "law.go:18", after := #[{ on := 54, ground := Ground.data }, { on := 56, ground := Ground.data }, { on := 52, ground := Ground.chain }, { on := 47, ground := Ground.guard }], guard := some (47, true) }) (by kernel_rfl) rfl (fun K hK => ?_)
            go_simp
            refine (HVr.out _).mono ?_
            rintro e w9 ⟨rfl, hb⟩
            have hHeld9 : Below w4.heap.size w4 w9 := below_two hHeld8 hb
            clear hb
            go_wp2_with fail
            refine hK.out _ _ (fun _ => hHeld9) ?_
            clear hK K
            try simp only [Act.put, List.setIfInBounds_toArray, List.set_cons_zero, List.set_cons_succ]
            refine Till.takeA (i := 58) (oi := { dst := some 80, op := Op.binOp BinOp.eql 3 (Operand.tmp 74) (Operand.tmp 79) 3, type := 4, pos := "law.go:18", after := #[{ on := 52, ground := Ground.data }, { on := 57, ground := Ground.data }, { on := 47, ground := Ground.guard }], guard := some (47, true) }) (v := .bool true) rfl (by kernel_rfl) (by kernel_rfl) (by kernel_rfl) (by rfl) (fun _ _ _ h => h) (Or.inl ⟨by rfl, fun w0 hS0 => ?_⟩) (by assumption) ?_
            · go_simp
            try simp only [Act.put, List.setIfInBounds_toArray, List.set_cons_zero, List.set_cons_succ]
            refine Till.takeA (i := 59) (oi := { dst := some 81, op := Op.pick (Operand.tmp 69) (Operand.tmp 80) (Operand.const (Value.bool false)), type := 4, pos := "law.go:18", after := #[{ on := 47, ground := Ground.data }, { on := 58, ground := Ground.data }], guard := none }) (v := .bool true) rfl (by kernel_rfl) (by kernel_rfl) (by kernel_rfl) (by rfl) (fun _ _ _ h => h) (Or.inl ⟨by rfl, fun w0 hS0 => ?_⟩) (by assumption) ?_
            · go_simp
            try simp only [Act.put, List.setIfInBounds_toArray, List.set_cons_zero, List.set_cons_succ]
            refine Till.takeA (i := 60) (oi := { dst := some 6, op := Op.assign (Operand.tmp 81), type := 4, pos := "law.go:18", after := #[{ on := 59, ground := Ground.data }, { on := 57, ground := Ground.chain }, { on := 0, ground := Ground.phase }, { on := 1, ground := Ground.phase }, { on := 2, ground := Ground.phase }, { on := 3, ground := Ground.phase }, { on := 4, ground := Ground.phase }, { on := 5, ground := Ground.phase }, { on := 6, ground := Ground.phase }, { on := 7, ground := Ground.phase }, { on := 8, ground := Ground.phase }, { on := 9, ground := Ground.phase }, { on := 10, ground := Ground.phase }, { on := 11, ground := Ground.phase }, { on := 12, ground := Ground.phase }, { on := 13, ground := Ground.phase }, { on := 14, ground := Ground.phase }, { on := 15, ground := Ground.phase }, { on := 16, ground := Ground.phase }, { on := 17, ground := Ground.phase }, { on := 18, ground := Ground.phase }, { on := 19, ground := Ground.phase }, { on := 20, ground := Ground.phase }, { on := 21, ground := Ground.phase }, { on := 22, ground := Ground.phase }, { on := 23, ground := Ground.phase }, { on := 24, ground := Ground.phase }, { on := 25, ground := Ground.phase }, { on := 26, ground := Ground.phase }, { on := 27, ground := Ground.phase }, { on := 28, ground := Ground.phase }, { on := 29, ground := Ground.phase }, { on := 30, ground := Ground.phase }, { on := 31, ground := Ground.phase }, { on := 32, ground := Ground.phase }, { on := 33, ground := Ground.phase }, { on := 34, ground := Ground.phase }, { on := 35, ground := Ground.phase }, { on := 36, ground := Ground.phase }, { on := 37, ground := Ground.phase }, { on := 38, ground := Ground.phase }, { on := 39, ground := Ground.phase }, { on := 40, ground := Ground.phase }, { on := 41, ground := Ground.phase }, { on := 42, ground := Ground.phase }, { on := 43, ground := Ground.phase }, { on := 44, ground := Ground.phase }, { on := 45, ground := Ground.phase }, { on := 46, ground := Ground.phase }, { on := 47, ground := Ground.phase }, { on := 48, ground := Ground.phase }, { on := 49, ground := Ground.phase }, { on := 50, ground := Ground.phase }, { on := 51, ground := Ground.phase }, { on := 52, ground := Ground.phase }, { on := 53, ground := Ground.phase }, { on := 54, ground := Ground.phase }, { on := 55, ground := Ground.phase }, { on := 56, ground := Ground.phase }, { on := 57, ground := Ground.phase }, { on := 58, ground := Ground.phase }, { on := 59, ground := Ground.phase }], guard := none }) (v := .bool true) rfl (by kernel_rfl) (by kernel_rfl) (by kernel_rfl) (by rfl) (fun _ _ _ h => h) (Or.inl ⟨by rfl, fun w0 hS0 => ?_⟩) (by assumption) ?_
            · go_simp
            try simp only [Act.put, List.setIfInBounds_toArray, List.set_cons_zero, List.set_cons_succ]
            refine Till.done (by kernel_rfl) ?_
-- TILL 45 END
            go_wp2
            go_ret
            exact ⟨rfl, below_two HBq.out hHeld9⟩
        · have HO2 := Lib.hid (show (o != 2) = true from bne_iff_ne.2 o2)
          have HZq := Lib.hid (show (C == 0) = true from beq_iff_eq.2 (HIf.out.2 ⟨hne, fun z => absurd z o1, fun z => absurd z o2⟩))
          clear hne o1 o2
-- TILL 41
          refine Till.region (z := 1000) (S := fun w' => Below w4.heap.size w4 w') (by kernel_rfl) ((Below.refl _ _).drew) (fun hHeld => ?_)
          refine Till.takeA (i := 0) (oi := { dst := some 22, op := Op.move (Operand.tmp 7), type := 3, pos := "law.go:18", after := #[], guard := none }) (v := .int .i64 C) rfl (by kernel_rfl) (by kernel_rfl) (by kernel_rfl) (by rfl) (fun _ _ _ h => h) (Or.inl ⟨by rfl, fun w0 hS0 => ?_⟩) (by assumption) ?_
          · go_simp
          try simp only [Act.put, List.setIfInBounds_toArray, List.set_cons_zero, List.set_cons_succ]
          refine Till.takeA (i := 1) (oi := { dst := some 23, op := Op.move (Operand.tmp 0), type := 3, pos := "law.go:18", after := #[], guard := none }) (v := .int .i64 o) rfl (by kernel_rfl) (by kernel_rfl) (by kernel_rfl) (by rfl) (fun _ _ _ h => h) (Or.inl ⟨by rfl, fun w0 hS0 => ?_⟩) (by assumption) ?_
          · go_simp
          try simp only [Act.put, List.setIfInBounds_toArray, List.set_cons_zero, List.set_cons_succ]
          refine Till.takeA (i := 2) (oi := { dst := some 24, op := Op.load 26 (Operand.tmp 4), type := 26, pos := "law.go:18", after := #[], guard := none }) (v := .agg #[.string x.name, .int .i64 x.size, .int .i64 x.time, .bool x.dir]) rfl (by kernel_rfl) (by kernel_rfl) (by kernel_rfl) (by rfl) (fun _ _ _ h => h) (Or.inl ⟨by rfl, fun w0 hS0 => ?_⟩) (by assumption) ?_
          · obtain ⟨r0, r1, r2, r3, r4, r5, r6, r7⟩ := HCl.out _ (below_two HB3.out hS0); go_simp
          try simp only [Act.put, List.setIfInBounds_toArray, List.set_cons_zero, List.set_cons_succ]
          refine Till.takeA (i := 3) (oi := { dst := some 25, op := Op.load 26 (Operand.tmp 5), type := 26, pos := "law.go:18", after := #[], guard := none }) (v := .agg #[.string y.name, .int .i64 y.size, .int .i64 y.time, .bool y.dir]) rfl (by kernel_rfl) (by kernel_rfl) (by kernel_rfl) (by rfl) (fun _ _ _ h => h) (Or.inl ⟨by rfl, fun w0 hS0 => ?_⟩) (by assumption) ?_
          · obtain ⟨r0, r1, r2, r3, r4, r5, r6, r7⟩ := HCl.out _ (below_two HB3.out hS0); go_simp
          try simp only [Act.put, List.setIfInBounds_toArray, List.set_cons_zero, List.set_cons_succ]
          refine Till.next (i := 4) (o := { dst := some 26, op := Op.call { callee := Callee.value (Operand.func 12), args := #[Operand.tmp 23, Operand.tmp 24, Operand.tmp 25], argTypes := #[3, 26, 26] }, type := 3, pos := "law.go:18", after := #[{ on := 1, ground := Ground.data }, { on := 2, ground := Ground.data }, { on := 3, ground := Ground.data }], guard := none }) (by kernel_rfl) rfl (fun K hK => ?_)
          go_simp
          refine (HRc.out _).mono ?_
          rintro e w5 ⟨rfl, hb⟩
          have hHeld5 : Below w4.heap.size w4 w5 := below_two hHeld hb
          clear hb
          go_wp2_with fail
          refine hK.out _ _ (fun _ => hHeld5) ?_
          clear hK K
          try simp only [Act.put, List.setIfInBounds_toArray, List.set_cons_zero, List.set_cons_succ]
          refine Till.takeA (i := 5) (oi := { dst := some 27, op := Op.binOp BinOp.eql 3 (Operand.tmp 22) (Operand.tmp 26) 3, type := 4, pos := "law.go:18", after := #[{ on := 0, ground := Ground.data }, { on := 4, ground := Ground.data }], guard := none }) (v := .bool true) rfl (by kernel_rfl) (by kernel_rfl) (by kernel_rfl) (by rfl) (fun _ _ _ h => h) (Or.inl ⟨by rfl, fun w0 hS0 => ?_⟩) (by assumption) ?_
          · go_simp
          try simp only [Act.put, List.setIfInBounds_toArray, List.set_cons_zero, List.set_cons_succ]
          refine Till.takeA (i := 6) (oi := { dst := some 28, op := Op.move (Operand.tmp 27), type := 4, pos := "law.go:18", after := #[{ on := 5, ground := Ground.data }, { on := 4, ground := Ground.chain }], guard := none }) (v := .bool true) rfl (by kernel_rfl) (by kernel_rfl) (by kernel_rfl) (by rfl) (fun _ _ _ h => h) (Or.inl ⟨by rfl, fun w0 hS0 => ?_⟩) (by assumption) ?_
          · go_simp
          try simp only [Act.put, List.setIfInBounds_toArray, List.set_cons_zero, List.set_cons_succ]
          refine Till.takeA (i := 7) (oi := { dst := some 29, op := Op.move (Operand.tmp 7), type := 3, pos := "law.go:18", after := #[{ on := 6, ground := Ground.guard }], guard := some (6, true) }) (v := .int .i64 C) rfl (by kernel_rfl) (by kernel_rfl) (by kernel_rfl) (by rfl) (fun _ _ _ h => h) (Or.inl ⟨by rfl, fun w0 hS0 => ?_⟩) (by assumption) ?_
          · go_simp
          try simp only [Act.put, List.setIfInBounds_toArray, List.set_cons_zero, List.set_cons_succ]
          refine Till.takeA (i := 8) (oi := { dst := some 30, op := Op.binOp BinOp.eql 3 (Operand.tmp 29) (Operand.const (Value.int IntKind.i64 0)) 3, type := 4, pos := "law.go:18", after := #[{ on := 7, ground := Ground.data }, { on := 6, ground := Ground.guard }], guard := some (6, true) }) (v := .bool true) rfl (by kernel_rfl) (by kernel_rfl) (by kernel_rfl) (by rfl) (fun _ _ _ h => h) (Or.inl ⟨by rfl, fun w0 hS0 => ?_⟩) (by assumption) ?_
          · have hq := HZq.out; go_simp
          try simp only [Act.put, List.setIfInBounds_toArray, List.set_cons_zero, List.set_cons_succ]
          refine Till.takeA (i := 9) (oi := { dst := some 31, op := Op.fieldAddr 26 (Operand.tmp 4) 0, type := 0, pos := "law.go:18", after := #[{ on := 6, ground := Ground.guard }], guard := some (6, true) }) (v := .pointer (some ⟨w.heap.size, 0, none⟩)) rfl (by kernel_rfl) (by kernel_rfl) (by kernel_rfl) (by rfl) (fun _ _ _ h => h) (Or.inl ⟨by rfl, fun w0 hS0 => ?_⟩) (by assumption) ?_
          · go_simp
          try simp only [Act.put, List.setIfInBounds_toArray, List.set_cons_zero, List.set_cons_succ]
          refine Till.takeA (i := 10) (oi := { dst := some 32, op := Op.load 9 (Operand.tmp 31), type := 9, pos := "law.go:18", after := #[{ on := 9, ground := Ground.data }, { on := 6, ground := Ground.guard }], guard := some (6, true) }) (v := .string x.name) rfl (by kernel_rfl) (by kernel_rfl) (by kernel_rfl) (by rfl) (fun _ _ _ h => h) (Or.inl ⟨by rfl, fun w0 hS0 => ?_⟩) (by assumption) ?_
          · obtain ⟨r0, r1, r2, r3, r4, r5, r6, r7⟩ := HCl.out _ (below_two HB3.out hS0); go_simp
          try simp only [Act.put, List.setIfInBounds_toArray, List.set_cons_zero, List.set_cons_succ]
          refine Till.takeA (i := 11) (oi := { dst := some 33, op := Op.fieldAddr 26 (Operand.tmp 5) 0, type := 0, pos := "law.go:18", after := #[{ on := 6, ground := Ground.guard }], guard := some (6, true) }) (v := .pointer (some ⟨w.heap.size + 1, 0, none⟩)) rfl (by kernel_rfl) (by kernel_rfl) (by kernel_rfl) (by rfl) (fun _ _ _ h => h) (Or.inl ⟨by rfl, fun w0 hS0 => ?_⟩) (by assumption) ?_
          · go_simp
          try simp only [Act.put, List.setIfInBounds_toArray, List.set_cons_zero, List.set_cons_succ]
          refine Till.takeA (i := 12) (oi := { dst := some 34, op := Op.load 9 (Operand.tmp 33), type := 9, pos := "law.go:18", after := #[{ on := 11, ground := Ground.data }, { on := 6, ground := Ground.guard }], guard := some (6, true) }) (v := .string y.name) rfl (by kernel_rfl) (by kernel_rfl) (by kernel_rfl) (by rfl) (fun _ _ _ h => h) (Or.inl ⟨by rfl, fun w0 hS0 => ?_⟩) (by assumption) ?_
          · obtain ⟨r0, r1, r2, r3, r4, r5, r6, r7⟩ := HCl.out _ (below_two HB3.out hS0); go_simp
          try simp only [Act.put, List.setIfInBounds_toArray, List.set_cons_zero, List.set_cons_succ]
          refine Till.takeA (i := 13) (oi := { dst := some 35, op := Op.binOp BinOp.eql 9 (Operand.tmp 32) (Operand.tmp 34) 9, type := 4, pos := "law.go:18", after := #[{ on := 10, ground := Ground.data }, { on := 12, ground := Ground.data }, { on := 6, ground := Ground.guard }], guard := some (6, true) }) (v := .bool true) rfl (by kernel_rfl) (by kernel_rfl) (by kernel_rfl) (by rfl) (fun _ _ _ h => h) (Or.inl ⟨by rfl, fun w0 hS0 => ?_⟩) (by assumption) ?_
          · obtain ⟨hq1, hq2, hq3⟩ := HNq.out; go_simp
          try simp only [Act.put, List.setIfInBounds_toArray, List.set_cons_zero, List.set_cons_succ]
          refine Till.takeA (i := 14) (oi := { dst := some 36, op := Op.move (Operand.tmp 35), type := 4, pos := "law.go:18", after := #[{ on := 13, ground := Ground.data }, { on := 6, ground := Ground.chain }, { on := 6, ground := Ground.guard }], guard := some (6, true) }) (v := .bool true) rfl (by kernel_rfl) (by kernel_rfl) (by kernel_rfl) (by rfl) (fun _ _ _ h => h) (Or.inl ⟨by rfl, fun w0 hS0 => ?_⟩) (by assumption) ?_
          · go_simp
          try simp only [Act.put, List.setIfInBounds_toArray, List.set_cons_zero, List.set_cons_succ]
          refine Till.takeA (i := 15) (oi := { dst := some 37, op := Op.move (Operand.tmp 0), type := 3, pos := "law.go:18", after := #[{ on := 14, ground := Ground.guard }], guard := some (14, true) }) (v := .int .i64 o) rfl (by kernel_rfl) (by kernel_rfl) (by kernel_rfl) (by rfl) (fun _ _ _ h => h) (Or.inl ⟨by rfl, fun w0 hS0 => ?_⟩) (by assumption) ?_
          · go_simp
          try simp only [Act.put, List.setIfInBounds_toArray, List.set_cons_zero, List.set_cons_succ]
          refine Till.takeA (i := 16) (oi := { dst := some 38, op := Op.binOp BinOp.neq 3 (Operand.tmp 37) (Operand.const (Value.int IntKind.i64 1)) 3, type := 4, pos := "law.go:18", after := #[{ on := 15, ground := Ground.data }, { on := 14, ground := Ground.guard }], guard := some (14, true) }) (v := .bool true) rfl (by kernel_rfl) (by kernel_rfl) (by kernel_rfl) (by rfl) (fun _ _ _ h => h) (Or.inl ⟨by rfl, fun w0 hS0 => ?_⟩) (by assumption) ?_
          · have hq := HO1.out; go_simp
          try simp only [Act.put, List.setIfInBounds_toArray, List.set_cons_zero, List.set_cons_succ]
          refine Till.takeA (i := 17) (oi := { dst := some 39, op := Op.move (Operand.tmp 38), type := 4, pos := "law.go:18", after := #[{ on := 16, ground := Ground.data }, { on := 14, ground := Ground.chain }, { on := 14, ground := Ground.guard }], guard := some (14, true) }) (v := .bool true) rfl (by kernel_rfl) (by kernel_rfl) (by kernel_rfl) (by rfl) (fun _ _ _ h => h) (Or.inl ⟨by rfl, fun w0 hS0 => ?_⟩) (by assumption) ?_
          · go_simp
          try simp only [Act.put, List.setIfInBounds_toArray, List.set_cons_zero, List.set_cons_succ]
          refine Till.takeA (i := 18) (oi := { dst := some 40, op := Op.fieldAddr 26 (Operand.tmp 4) 1, type := 0, pos := "law.go:18", after := #[{ on := 17, ground := Ground.guard }], guard := some (17, false) }) (v := undef) rfl (by kernel_rfl) (by kernel_rfl) (by kernel_rfl) (by rfl) (fun _ _ _ h => h) (Or.inr ⟨by rfl, rfl⟩) (by assumption) ?_
          try simp only [Act.put, List.setIfInBounds_toArray, List.set_cons_zero, List.set_cons_succ]
          refine Till.takeA (i := 19) (oi := { dst := some 41, op := Op.load 2 (Operand.tmp 40), type := 2, pos := "law.go:18", after := #[{ on := 18, ground := Ground.data }, { on := 17, ground := Ground.guard }], guard := some (17, false) }) (v := undef) rfl (by kernel_rfl) (by kernel_rfl) (by kernel_rfl) (by rfl) (fun _ _ _ h => h) (Or.inr ⟨by rfl, rfl⟩) (by assumption) ?_
          try simp only [Act.put, List.setIfInBounds_toArray, List.set_cons_zero, List.set_cons_succ]
          refine Till.takeA (i := 20) (oi := { dst := some 42, op := Op.fieldAddr 26 (Operand.tmp 5) 1, type := 0, pos := "law.go:18", after := #[{ on := 17, ground := Ground.guard }], guard := some (17, false) }) (v := undef) rfl (by kernel_rfl) (by kernel_rfl) (by kernel_rfl) (by rfl) (fun _ _ _ h => h) (Or.inr ⟨by rfl, rfl⟩) (by assumption) ?_
          try simp only [Act.put, List.setIfInBounds_toArray, List.set_cons_zero, List.set_cons_succ]
          refine Till.takeA (i := 21) (oi := { dst := some 43, op := Op.load 2 (Operand.tmp 42), type := 2, pos := "law.go:18", after := #[{ on := 20, ground := Ground.data }, { on := 17, ground := Ground.guard }], guard := some (17, false) }) (v := undef) rfl (by kernel_rfl) (by kernel_rfl) (by kernel_rfl) (by rfl) (fun _ _ _ h => h) (Or.inr ⟨by rfl, rfl⟩) (by assumption) ?_
          try simp only [Act.put, List.setIfInBounds_toArray, List.set_cons_zero, List.set_cons_succ]
          refine Till.takeA (i := 22) (oi := { dst := some 44, op := Op.binOp BinOp.eql 2 (Operand.tmp 41) (Operand.tmp 43) 2, type := 4, pos := "law.go:18", after := #[{ on := 19, ground := Ground.data }, { on := 21, ground := Ground.data }, { on := 17, ground := Ground.guard }], guard := some (17, false) }) (v := undef) rfl (by kernel_rfl) (by kernel_rfl) (by kernel_rfl) (by rfl) (fun _ _ _ h => h) (Or.inr ⟨by rfl, rfl⟩) (by assumption) ?_
          try simp only [Act.put, List.setIfInBounds_toArray, List.set_cons_zero, List.set_cons_succ]
          refine Till.takeA (i := 23) (oi := { dst := some 45, op := Op.pick (Operand.tmp 39) (Operand.const (Value.bool true)) (Operand.tmp 44), type := 4, pos := "law.go:18", after := #[{ on := 17, ground := Ground.data }, { on := 22, ground := Ground.data }, { on := 14, ground := Ground.guard }], guard := some (14, true) }) (v := .bool true) rfl (by kernel_rfl) (by kernel_rfl) (by kernel_rfl) (by rfl) (fun _ _ _ h => h) (Or.inl ⟨by rfl, fun w0 hS0 => ?_⟩) (by assumption) ?_
          · go_simp
          try simp only [Act.put, List.setIfInBounds_toArray, List.set_cons_zero, List.set_cons_succ]
          refine Till.takeA (i := 24) (oi := { dst := some 46, op := Op.pick (Operand.tmp 36) (Operand.tmp 45) (Operand.const (Value.bool false)), type := 4, pos := "law.go:18", after := #[{ on := 14, ground := Ground.data }, { on := 23, ground := Ground.data }, { on := 6, ground := Ground.guard }], guard := some (6, true) }) (v := .bool true) rfl (by kernel_rfl) (by kernel_rfl) (by kernel_rfl) (by rfl) (fun _ _ _ h => h) (Or.inl ⟨by rfl, fun w0 hS0 => ?_⟩) (by assumption) ?_
          · go_simp
          try simp only [Act.put, List.setIfInBounds_toArray, List.set_cons_zero, List.set_cons_succ]
          refine Till.takeA (i := 25) (oi := { dst := some 47, op := Op.move (Operand.tmp 46), type := 4, pos := "law.go:18", after := #[{ on := 24, ground := Ground.data }, { on := 17, ground := Ground.chain }, { on := 6, ground := Ground.guard }], guard := some (6, true) }) (v := .bool true) rfl (by kernel_rfl) (by kernel_rfl) (by kernel_rfl) (by rfl) (fun _ _ _ h => h) (Or.inl ⟨by rfl, fun w0 hS0 => ?_⟩) (by assumption) ?_
          · go_simp
          try simp only [Act.put, List.setIfInBounds_toArray, List.set_cons_zero, List.set_cons_succ]
          refine Till.takeA (i := 26) (oi := { dst := some 48, op := Op.move (Operand.tmp 0), type := 3, pos := "law.go:18", after := #[{ on := 25, ground := Ground.guard }], guard := some (25, true) }) (v := .int .i64 o) rfl (by kernel_rfl) (by kernel_rfl) (by kernel_rfl) (by rfl) (fun _ _ _ h => h) (Or.inl ⟨by rfl, fun w0 hS0 => ?_⟩) (by assumption) ?_
          · go_simp
          try simp only [Act.put, List.setIfInBounds_toArray, List.set_cons_zero, List.set_cons_succ]
          refine Till.takeA (i := 27) (oi := { dst := some 49, op := Op.binOp BinOp.neq 3 (Operand.tmp 48) (Operand.const (Value.int IntKind.i64 2)) 3, type := 4, pos := "law.go:18", after := #[{ on := 26, ground := Ground.data }, { on := 25, ground := Ground.guard }], guard := some (25, true) }) (v := .bool true) rfl (by kernel_rfl) (by kernel_rfl) (by kernel_rfl) (by rfl) (fun _ _ _ h => h) (Or.inl ⟨by rfl, fun w0 hS0 => ?_⟩) (by assumption) ?_
          · have hq := HO2.out; go_simp
          try simp only [Act.put, List.setIfInBounds_toArray, List.set_cons_zero, List.set_cons_succ]
          refine Till.takeA (i := 28) (oi := { dst := some 50, op := Op.move (Operand.tmp 49), type := 4, pos := "law.go:18", after := #[{ on := 27, ground := Ground.data }, { on := 25, ground := Ground.chain }, { on := 25, ground := Ground.guard }], guard := some (25, true) }) (v := .bool true) rfl (by kernel_rfl) (by kernel_rfl) (by kernel_rfl) (by rfl) (fun _ _ _ h => h) (Or.inl ⟨by rfl, fun w0 hS0 => ?_⟩) (by assumption) ?_
          · go_simp
          try simp only [Act.put, List.setIfInBounds_toArray, List.set_cons_zero, List.set_cons_succ]
          refine Till.takeA (i := 29) (oi := { dst := some 51, op := Op.fieldAddr 26 (Operand.tmp 4) 2, type := 0, pos := "law.go:18", after := #[{ on := 28, ground := Ground.guard }], guard := some (28, false) }) (v := undef) rfl (by kernel_rfl) (by kernel_rfl) (by kernel_rfl) (by rfl) (fun _ _ _ h => h) (Or.inr ⟨by rfl, rfl⟩) (by assumption) ?_
          try simp only [Act.put, List.setIfInBounds_toArray, List.set_cons_zero, List.set_cons_succ]
          refine Till.takeA (i := 30) (oi := { dst := some 52, op := Op.load 2 (Operand.tmp 51), type := 2, pos := "law.go:18", after := #[{ on := 29, ground := Ground.data }, { on := 28, ground := Ground.guard }], guard := some (28, false) }) (v := undef) rfl (by kernel_rfl) (by kernel_rfl) (by kernel_rfl) (by rfl) (fun _ _ _ h => h) (Or.inr ⟨by rfl, rfl⟩) (by assumption) ?_
          try simp only [Act.put, List.setIfInBounds_toArray, List.set_cons_zero, List.set_cons_succ]
          refine Till.takeA (i := 31) (oi := { dst := some 53, op := Op.fieldAddr 26 (Operand.tmp 5) 2, type := 0, pos := "law.go:18", after := #[{ on := 28, ground := Ground.guard }], guard := some (28, false) }) (v := undef) rfl (by kernel_rfl) (by kernel_rfl) (by kernel_rfl) (by rfl) (fun _ _ _ h => h) (Or.inr ⟨by rfl, rfl⟩) (by assumption) ?_
          try simp only [Act.put, List.setIfInBounds_toArray, List.set_cons_zero, List.set_cons_succ]
          refine Till.takeA (i := 32) (oi := { dst := some 54, op := Op.load 2 (Operand.tmp 53), type := 2, pos := "law.go:18", after := #[{ on := 31, ground := Ground.data }, { on := 28, ground := Ground.guard }], guard := some (28, false) }) (v := undef) rfl (by kernel_rfl) (by kernel_rfl) (by kernel_rfl) (by rfl) (fun _ _ _ h => h) (Or.inr ⟨by rfl, rfl⟩) (by assumption) ?_
          try simp only [Act.put, List.setIfInBounds_toArray, List.set_cons_zero, List.set_cons_succ]
          refine Till.takeA (i := 33) (oi := { dst := some 55, op := Op.binOp BinOp.eql 2 (Operand.tmp 52) (Operand.tmp 54) 2, type := 4, pos := "law.go:18", after := #[{ on := 30, ground := Ground.data }, { on := 32, ground := Ground.data }, { on := 28, ground := Ground.guard }], guard := some (28, false) }) (v := undef) rfl (by kernel_rfl) (by kernel_rfl) (by kernel_rfl) (by rfl) (fun _ _ _ h => h) (Or.inr ⟨by rfl, rfl⟩) (by assumption) ?_
          try simp only [Act.put, List.setIfInBounds_toArray, List.set_cons_zero, List.set_cons_succ]
          refine Till.takeA (i := 34) (oi := { dst := some 56, op := Op.pick (Operand.tmp 50) (Operand.const (Value.bool true)) (Operand.tmp 55), type := 4, pos := "law.go:18", after := #[{ on := 28, ground := Ground.data }, { on := 33, ground := Ground.data }, { on := 25, ground := Ground.guard }], guard := some (25, true) }) (v := .bool true) rfl (by kernel_rfl) (by kernel_rfl) (by kernel_rfl) (by rfl) (fun _ _ _ h => h) (Or.inl ⟨by rfl, fun w0 hS0 => ?_⟩) (by assumption) ?_
          · go_simp
          try simp only [Act.put, List.setIfInBounds_toArray, List.set_cons_zero, List.set_cons_succ]
          refine Till.takeA (i := 35) (oi := { dst := some 57, op := Op.pick (Operand.tmp 47) (Operand.tmp 56) (Operand.const (Value.bool false)), type := 4, pos := "law.go:18", after := #[{ on := 25, ground := Ground.data }, { on := 34, ground := Ground.data }, { on := 6, ground := Ground.guard }], guard := some (6, true) }) (v := .bool true) rfl (by kernel_rfl) (by kernel_rfl) (by kernel_rfl) (by rfl) (fun _ _ _ h => h) (Or.inl ⟨by rfl, fun w0 hS0 => ?_⟩) (by assumption) ?_
          · go_simp
          try simp only [Act.put, List.setIfInBounds_toArray, List.set_cons_zero, List.set_cons_succ]
          refine Till.takeA (i := 36) (oi := { dst := some 58, op := Op.binOp BinOp.eql 4 (Operand.tmp 30) (Operand.tmp 57) 4, type := 4, pos := "law.go:18", after := #[{ on := 8, ground := Ground.data }, { on := 35, ground := Ground.data }, { on := 6, ground := Ground.guard }], guard := some (6, true) }) (v := .bool true) rfl (by kernel_rfl) (by kernel_rfl) (by kernel_rfl) (by rfl) (fun _ _ _ h => h) (Or.inl ⟨by rfl, fun w0 hS0 => ?_⟩) (by assumption) ?_
          · go_simp
          try simp only [Act.put, List.setIfInBounds_toArray, List.set_cons_zero, List.set_cons_succ]
          refine Till.takeA (i := 37) (oi := { dst := some 59, op := Op.pick (Operand.tmp 28) (Operand.tmp 58) (Operand.const (Value.bool false)), type := 4, pos := "law.go:18", after := #[{ on := 6, ground := Ground.data }, { on := 36, ground := Ground.data }], guard := none }) (v := .bool true) rfl (by kernel_rfl) (by kernel_rfl) (by kernel_rfl) (by rfl) (fun _ _ _ h => h) (Or.inl ⟨by rfl, fun w0 hS0 => ?_⟩) (by assumption) ?_
          · go_simp
          try simp only [Act.put, List.setIfInBounds_toArray, List.set_cons_zero, List.set_cons_succ]
          refine Till.takeA (i := 38) (oi := { dst := some 60, op := Op.move (Operand.tmp 59), type := 4, pos := "law.go:18", after := #[{ on := 37, ground := Ground.data }, { on := 28, ground := Ground.chain }], guard := none }) (v := .bool true) rfl (by kernel_rfl) (by kernel_rfl) (by kernel_rfl) (by rfl) (fun _ _ _ h => h) (Or.inl ⟨by rfl, fun w0 hS0 => ?_⟩) (by assumption) ?_
          · go_simp
          try simp only [Act.put, List.setIfInBounds_toArray, List.set_cons_zero, List.set_cons_succ]
          refine Till.takeA (i := 39) (oi := { dst := some 61, op := Op.fieldAddr 26 (Operand.tmp 4) 0, type := 0, pos := "law.go:18", after := #[{ on := 38, ground := Ground.guard }], guard := some (38, true) }) (v := .pointer (some ⟨w.heap.size, 0, none⟩)) rfl (by kernel_rfl) (by kernel_rfl) (by kernel_rfl) (by rfl) (fun _ _ _ h => h) (Or.inl ⟨by rfl, fun w0 hS0 => ?_⟩) (by assumption) ?_
          · go_simp
          try simp only [Act.put, List.setIfInBounds_toArray, List.set_cons_zero, List.set_cons_succ]
          refine Till.takeA (i := 40) (oi := { dst := some 62, op := Op.load 9 (Operand.tmp 61), type := 9, pos := "law.go:18", after := #[{ on := 39, ground := Ground.data }, { on := 38, ground := Ground.guard }], guard := some (38, true) }) (v := .string x.name) rfl (by kernel_rfl) (by kernel_rfl) (by kernel_rfl) (by rfl) (fun _ _ _ h => h) (Or.inl ⟨by rfl, fun w0 hS0 => ?_⟩) (by assumption) ?_
          · obtain ⟨r0, r1, r2, r3, r4, r5, r6, r7⟩ := HCl.out _ (below_two HB3.out hS0); go_simp
          try simp only [Act.put, List.setIfInBounds_toArray, List.set_cons_zero, List.set_cons_succ]
          refine Till.takeA (i := 42) (oi := { dst := some 64, op := Op.fieldAddr 26 (Operand.tmp 4) 0, type := 0, pos := "law.go:18", after := #[{ on := 38, ground := Ground.guard }], guard := some (38, true) }) (v := .pointer (some ⟨w.heap.size, 0, none⟩)) rfl (by kernel_rfl) (by kernel_rfl) (by kernel_rfl) (by rfl) (fun _ _ _ h => h) (Or.inl ⟨by rfl, fun w0 hS0 => ?_⟩) (by assumption) ?_
          · go_simp
          try simp only [Act.put, List.setIfInBounds_toArray, List.set_cons_zero, List.set_cons_succ]
          refine Till.takeA (i := 43) (oi := { dst := some 65, op := Op.load 9 (Operand.tmp 64), type := 9, pos := "law.go:18", after := #[{ on := 42, ground := Ground.data }, { on := 38, ground := Ground.guard }], guard := some (38, true) }) (v := .string x.name) rfl (by kernel_rfl) (by kernel_rfl) (by kernel_rfl) (by rfl) (fun _ _ _ h => h) (Or.inl ⟨by rfl, fun w0 hS0 => ?_⟩) (by assumption) ?_
          · obtain ⟨r0, r1, r2, r3, r4, r5, r6, r7⟩ := HCl.out _ (below_two HB3.out hS0); go_simp
          try simp only [Act.put, List.setIfInBounds_toArray, List.set_cons_zero, List.set_cons_succ]
          refine Till.next (i := 41) (o := { dst := some 63, op := Op.call { callee := Callee.value (Operand.func 13), args := #[Operand.tmp 62], argTypes := #[9] }, type := 9, pos := "law.go:18", after := #[{ on := 40, ground := Ground.data }, { on := 38, ground := Ground.chain }, { on := 38, ground := Ground.guard }], guard := some (38, true) }) (by kernel_rfl) rfl (fun K hK => ?_)
          go_simp
          refine (HEp.out _ (below_two HBq.out hHeld5)).mono ?_
          rintro e w6 ⟨rfl, hb⟩
          have hHeld6 : Below w4.heap.size w4 w6 := below_two hHeld5 hb
          clear hb
          go_wp2_with fail
          refine hK.out _ _ (fun _ => hHeld6) ?_
          clear hK K
          try simp only [Act.put, List.setIfInBounds_toArray, List.set_cons_zero, List.set_cons_succ]
          refine Till.next (i := 44) (o := { dst := some 66, op := Op.call { callee := Callee.value (Operand.func 14), args := #[Operand.tmp 65], argTypes := #[9] }, type := 9, pos := "law.go:18", after := #[{ on := 43, ground := Ground.data }, { on := 41, ground := Ground.chain }, { on := 38, ground := Ground.guard }], guard := some (38, true) }) (by kernel_rfl) rfl (fun K hK => ?_)
          go_simp
          refine (HEr.out _).mono ?_
          rintro e w7 ⟨rfl, hb⟩
          have hHeld7 : Below w4.heap.size w4 w7 := by rw [← hb]; exact hHeld6
          clear hb
          go_wp2_with fail
          refine hK.out _ _ (fun _ => hHeld7) ?_
          clear hK K
          try simp only [Act.put, List.setIfInBounds_toArray, List.set_cons_zero, List.set_cons_succ]
          refine Till.takeA (i := 45) (oi := { dst := some 67, op := Op.binOp BinOp.eql 9 (Operand.tmp 63) (Operand.tmp 66) 9, type := 4, pos := "law.go:18", after := #[{ on := 41, ground := Ground.data }, { on := 44, ground := Ground.data }, { on := 38, ground := Ground.guard }], guard := some (38, true) }) (v := .bool true) rfl (by kernel_rfl) (by kernel_rfl) (by kernel_rfl) (by rfl) (fun _ _ _ h => h) (Or.inl ⟨by rfl, fun w0 hS0 => ?_⟩) (by assumption) ?_
          · go_simp
          try simp only [Act.put, List.setIfInBounds_toArray, List.set_cons_zero, List.set_cons_succ]
          refine Till.takeA (i := 46) (oi := { dst := some 68, op := Op.pick (Operand.tmp 60) (Operand.tmp 67) (Operand.const (Value.bool false)), type := 4, pos := "law.go:18", after := #[{ on := 38, ground := Ground.data }, { on := 45, ground := Ground.data }], guard := none }) (v := .bool true) rfl (by kernel_rfl) (by kernel_rfl) (by kernel_rfl) (by rfl) (fun _ _ _ h => h) (Or.inl ⟨by rfl, fun w0 hS0 => ?_⟩) (by assumption) ?_
          · go_simp
          try simp only [Act.put, List.setIfInBounds_toArray, List.set_cons_zero, List.set_cons_succ]
          refine Till.takeA (i := 47) (oi := { dst := some 69, op := Op.move (Operand.tmp 68), type := 4, pos := "law.go:18", after := #[{ on := 46, ground := Ground.data }, { on := 44, ground := Ground.chain }], guard := none }) (v := .bool true) rfl (by kernel_rfl) (by kernel_rfl) (by kernel_rfl) (by rfl) (fun _ _ _ h => h) (Or.inl ⟨by rfl, fun w0 hS0 => ?_⟩) (by assumption) ?_
          · go_simp
          try simp only [Act.put, List.setIfInBounds_toArray, List.set_cons_zero, List.set_cons_succ]
          refine Till.takeA (i := 48) (oi := { dst := some 70, op := Op.fieldAddr 26 (Operand.tmp 4) 0, type := 0, pos := "law.go:18", after := #[{ on := 47, ground := Ground.guard }], guard := some (47, true) }) (v := .pointer (some ⟨w.heap.size, 0, none⟩)) rfl (by kernel_rfl) (by kernel_rfl) (by kernel_rfl) (by rfl) (fun _ _ _ h => h) (Or.inl ⟨by rfl, fun w0 hS0 => ?_⟩) (by assumption) ?_
          · go_simp
          try simp only [Act.put, List.setIfInBounds_toArray, List.set_cons_zero, List.set_cons_succ]
          refine Till.takeA (i := 49) (oi := { dst := some 71, op := Op.load 9 (Operand.tmp 70), type := 9, pos := "law.go:18", after := #[{ on := 48, ground := Ground.data }, { on := 47, ground := Ground.guard }], guard := some (47, true) }) (v := .string x.name) rfl (by kernel_rfl) (by kernel_rfl) (by kernel_rfl) (by rfl) (fun _ _ _ h => h) (Or.inl ⟨by rfl, fun w0 hS0 => ?_⟩) (by assumption) ?_
          · obtain ⟨r0, r1, r2, r3, r4, r5, r6, r7⟩ := HCl.out _ (below_two HB3.out hS0); go_simp
          try simp only [Act.put, List.setIfInBounds_toArray, List.set_cons_zero, List.set_cons_succ]
          refine Till.takeA (i := 50) (oi := { dst := some 72, op := Op.fieldAddr 26 (Operand.tmp 5) 0, type := 0, pos := "law.go:18", after := #[{ on := 47, ground := Ground.guard }], guard := some (47, true) }) (v := .pointer (some ⟨w.heap.size + 1, 0, none⟩)) rfl (by kernel_rfl) (by kernel_rfl) (by kernel_rfl) (by rfl) (fun _ _ _ h => h) (Or.inl ⟨by rfl, fun w0 hS0 => ?_⟩) (by assumption) ?_
          · go_simp
          try simp only [Act.put, List.setIfInBounds_toArray, List.set_cons_zero, List.set_cons_succ]
          refine Till.takeA (i := 51) (oi := { dst := some 73, op := Op.load 9 (Operand.tmp 72), type := 9, pos := "law.go:18", after := #[{ on := 50, ground := Ground.data }, { on := 47, ground := Ground.guard }], guard := some (47, true) }) (v := .string y.name) rfl (by kernel_rfl) (by kernel_rfl) (by kernel_rfl) (by rfl) (fun _ _ _ h => h) (Or.inl ⟨by rfl, fun w0 hS0 => ?_⟩) (by assumption) ?_
          · obtain ⟨r0, r1, r2, r3, r4, r5, r6, r7⟩ := HCl.out _ (below_two HB3.out hS0); go_simp
          try simp only [Act.put, List.setIfInBounds_toArray, List.set_cons_zero, List.set_cons_succ]
          refine Till.takeA (i := 53) (oi := { dst := some 75, op := Op.fieldAddr 26 (Operand.tmp 4) 0, type := 0, pos := "law.go:18", after := #[{ on := 47, ground := Ground.guard }], guard := some (47, true) }) (v := .pointer (some ⟨w.heap.size, 0, none⟩)) rfl (by kernel_rfl) (by kernel_rfl) (by kernel_rfl) (by rfl) (fun _ _ _ h => h) (Or.inl ⟨by rfl, fun w0 hS0 => ?_⟩) (by assumption) ?_
          · go_simp
          try simp only [Act.put, List.setIfInBounds_toArray, List.set_cons_zero, List.set_cons_succ]
          refine Till.takeA (i := 54) (oi := { dst := some 76, op := Op.load 9 (Operand.tmp 75), type := 9, pos := "law.go:18", after := #[{ on := 53, ground := Ground.data }, { on := 47, ground := Ground.guard }], guard := some (47, true) }) (v := .string x.name) rfl (by kernel_rfl) (by kernel_rfl) (by kernel_rfl) (by rfl) (fun _ _ _ h => h) (Or.inl ⟨by rfl, fun w0 hS0 => ?_⟩) (by assumption) ?_
          · obtain ⟨r0, r1, r2, r3, r4, r5, r6, r7⟩ := HCl.out _ (below_two HB3.out hS0); go_simp
          try simp only [Act.put, List.setIfInBounds_toArray, List.set_cons_zero, List.set_cons_succ]
          refine Till.takeA (i := 55) (oi := { dst := some 77, op := Op.fieldAddr 26 (Operand.tmp 5) 0, type := 0, pos := "law.go:18", after := #[{ on := 47, ground := Ground.guard }], guard := some (47, true) }) (v := .pointer (some ⟨w.heap.size + 1, 0, none⟩)) rfl (by kernel_rfl) (by kernel_rfl) (by kernel_rfl) (by rfl) (fun _ _ _ h => h) (Or.inl ⟨by rfl, fun w0 hS0 => ?_⟩) (by assumption) ?_
          · go_simp
          try simp only [Act.put, List.setIfInBounds_toArray, List.set_cons_zero, List.set_cons_succ]
          refine Till.takeA (i := 56) (oi := { dst := some 78, op := Op.load 9 (Operand.tmp 77), type := 9, pos := "law.go:18", after := #[{ on := 55, ground := Ground.data }, { on := 47, ground := Ground.guard }], guard := some (47, true) }) (v := .string y.name) rfl (by kernel_rfl) (by kernel_rfl) (by kernel_rfl) (by rfl) (fun _ _ _ h => h) (Or.inl ⟨by rfl, fun w0 hS0 => ?_⟩) (by assumption) ?_
          · obtain ⟨r0, r1, r2, r3, r4, r5, r6, r7⟩ := HCl.out _ (below_two HB3.out hS0); go_simp
          try simp only [Act.put, List.setIfInBounds_toArray, List.set_cons_zero, List.set_cons_succ]
          refine Till.next (i := 52) (o := { dst := some 74, op := Op.call { callee := Callee.value (Operand.func 15), args := #[Operand.tmp 71, Operand.tmp 73], argTypes := #[9, 9] }, type := 3, pos := "law.go:18", after := #[{ on := 49, ground := Ground.data }, { on := 51, ground := Ground.data }, { on := 47, ground := Ground.chain }, { on := 47, ground := Ground.guard }], guard := some (47, true) }) (by kernel_rfl) rfl (fun K hK => ?_)
          go_simp
          refine (HVp.out _ (below_two HBq.out hHeld7)).mono ?_
          rintro e w8 ⟨rfl, hb⟩
          have hHeld8 : Below w4.heap.size w4 w8 := below_two hHeld7 hb
          clear hb
          go_wp2_with fail
          refine hK.out _ _ (fun _ => hHeld8) ?_
          clear hK K
          try simp only [Act.put, List.setIfInBounds_toArray, List.set_cons_zero, List.set_cons_succ]
          refine Till.next (i := 57) (o := { dst := some 79, op := Op.call { callee := Callee.value (Operand.func 16), args := #[Operand.tmp 76, Operand.tmp 78], argTypes := #[9, 9] }, type := 3, pos := "law.go:18", after := #[{ on := 54, ground := Ground.data }, { on := 56, ground := Ground.data }, { on := 52, ground := Ground.chain }, { on := 47, ground := Ground.guard }], guard := some (47, true) }) (by kernel_rfl) rfl (fun K hK => ?_)
          go_simp
          refine (HVr.out _).mono ?_
          rintro e w9 ⟨rfl, hb⟩
          have hHeld9 : Below w4.heap.size w4 w9 := below_two hHeld8 hb
          clear hb
          go_wp2_with fail
          refine hK.out _ _ (fun _ => hHeld9) ?_
          clear hK K
          try simp only [Act.put, List.setIfInBounds_toArray, List.set_cons_zero, List.set_cons_succ]
          refine Till.takeA (i := 58) (oi := { dst := some 80, op := Op.binOp BinOp.eql 3 (Operand.tmp 74) (Operand.tmp 79) 3, type := 4, pos := "law.go:18", after := #[{ on := 52, ground := Ground.data }, { on := 57, ground := Ground.data }, { on := 47, ground := Ground.guard }], guard := some (47, true) }) (v := .bool true) rfl (by kernel_rfl) (by kernel_rfl) (by kernel_rfl) (by rfl) (fun _ _ _ h => h) (Or.inl ⟨by rfl, fun w0 hS0 => ?_⟩) (by assumption) ?_
          · go_simp
          try simp only [Act.put, List.setIfInBounds_toArray, List.set_cons_zero, List.set_cons_succ]
          refine Till.takeA (i := 59) (oi := { dst := some 81, op := Op.pick (Operand.tmp 69) (Operand.tmp 80) (Operand.const (Value.bool false)), type := 4, pos := "law.go:18", after := #[{ on := 47, ground := Ground.data }, { on := 58, ground := Ground.data }], guard := none }) (v := .bool true) rfl (by kernel_rfl) (by kernel_rfl) (by kernel_rfl) (by rfl) (fun _ _ _ h => h) (Or.inl ⟨by rfl, fun w0 hS0 => ?_⟩) (by assumption) ?_
          · go_simp
          try simp only [Act.put, List.setIfInBounds_toArray, List.set_cons_zero, List.set_cons_succ]
          refine Till.takeA (i := 60) (oi := { dst := some 6, op := Op.assign (Operand.tmp 81), type := 4, pos := "law.go:18", after := #[{ on := 59, ground := Ground.data }, { on := 57, ground := Ground.chain }, { on := 0, ground := Ground.phase }, { on := 1, ground := Ground.phase }, { on := 2, ground := Ground.phase }, { on := 3, ground := Ground.phase }, { on := 4, ground := Ground.phase }, { on := 5, ground := Ground.phase }, { on := 6, ground := Ground.phase }, { on := 7, ground := Ground.phase }, { on := 8, ground := Ground.phase }, { on := 9, ground := Ground.phase }, { on := 10, ground := Ground.phase }, { on := 11, ground := Ground.phase }, { on := 12, ground := Ground.phase }, { on := 13, ground := Ground.phase }, { on := 14, ground := Ground.phase }, { on := 15, ground := Ground.phase }, { on := 16, ground := Ground.phase }, { on := 17, ground := Ground.phase }, { on := 18, ground := Ground.phase }, { on := 19, ground := Ground.phase }, { on := 20, ground := Ground.phase }, { on := 21, ground := Ground.phase }, { on := 22, ground := Ground.phase }, { on := 23, ground := Ground.phase }, { on := 24, ground := Ground.phase }, { on := 25, ground := Ground.phase }, { on := 26, ground := Ground.phase }, { on := 27, ground := Ground.phase }, { on := 28, ground := Ground.phase }, { on := 29, ground := Ground.phase }, { on := 30, ground := Ground.phase }, { on := 31, ground := Ground.phase }, { on := 32, ground := Ground.phase }, { on := 33, ground := Ground.phase }, { on := 34, ground := Ground.phase }, { on := 35, ground := Ground.phase }, { on := 36, ground := Ground.phase }, { on := 37, ground := Ground.phase }, { on := 38, ground := Ground.phase }, { on := 39, ground := Ground.phase }, { on := 40, ground := Ground.phase }, { on := 41, ground := Ground.phase }, { on := 42, ground := Ground.phase }, { on := 43, ground := Ground.phase }, { on := 44, ground := Ground.phase }, { on := 45, ground := Ground.phase }, { on := 46, ground := Ground.phase }, { on := 47, ground := Ground.phase }, { on := 48, ground := Ground.phase }, { on := 49, ground := Ground.phase }, { on := 50, ground := Ground.phase }, { on := 51, ground := Ground.phase }, { on := 52, ground := Ground.phase }, { on := 53, ground := Ground.phase }, { on := 54, ground := Ground.phase }, { on := 55, ground := Ground.phase }, { on := 56, ground := Ground.phase }, { on := 57, ground := Ground.phase }, { on := 58, ground := Ground.phase }, { on := 59, ground := Ground.phase }], guard := none }) (v := .bool true) rfl (by kernel_rfl) (by kernel_rfl) (by kernel_rfl) (by rfl) (fun _ _ _ h => h) (Or.inl ⟨by rfl, fun w0 hS0 => ?_⟩) (by assumption) ?_
          · go_simp
          try simp only [Act.put, List.setIfInBounds_toArray, List.set_cons_zero, List.set_cons_succ]
          refine Till.done (by kernel_rfl) ?_
-- TILL 41 END
          go_wp2
          go_ret
          exact ⟨rfl, below_two HBq.out hHeld9⟩
    · have HNq := Lib.hid (str_ne x.name y.name hne)
      have HZq := Lib.hid (show (C == 0) = false from beq_eq_false_iff_ne.2 (fun z => hne (HIf.out.1 z).1))
      clear hne
-- TILL 40
      refine Till.region (z := 1000) (S := fun w' => Below w4.heap.size w4 w') (by kernel_rfl) ((Below.refl _ _).drew) (fun hHeld => ?_)
      refine Till.takeA (i := 0) (oi := { dst := some 22, op := Op.move (Operand.tmp 7), type := 3, pos := "law.go:18", after := #[], guard := none }) (v := .int .i64 C) rfl (by kernel_rfl) (by kernel_rfl) (by kernel_rfl) (by rfl) (fun _ _ _ h => h) (Or.inl ⟨by rfl, fun w0 hS0 => ?_⟩) (by assumption) ?_
      · go_simp
      try simp only [Act.put, List.setIfInBounds_toArray, List.set_cons_zero, List.set_cons_succ]
      refine Till.takeA (i := 1) (oi := { dst := some 23, op := Op.move (Operand.tmp 0), type := 3, pos := "law.go:18", after := #[], guard := none }) (v := .int .i64 o) rfl (by kernel_rfl) (by kernel_rfl) (by kernel_rfl) (by rfl) (fun _ _ _ h => h) (Or.inl ⟨by rfl, fun w0 hS0 => ?_⟩) (by assumption) ?_
      · go_simp
      try simp only [Act.put, List.setIfInBounds_toArray, List.set_cons_zero, List.set_cons_succ]
      refine Till.takeA (i := 2) (oi := { dst := some 24, op := Op.load 26 (Operand.tmp 4), type := 26, pos := "law.go:18", after := #[], guard := none }) (v := .agg #[.string x.name, .int .i64 x.size, .int .i64 x.time, .bool x.dir]) rfl (by kernel_rfl) (by kernel_rfl) (by kernel_rfl) (by rfl) (fun _ _ _ h => h) (Or.inl ⟨by rfl, fun w0 hS0 => ?_⟩) (by assumption) ?_
      · obtain ⟨r0, r1, r2, r3, r4, r5, r6, r7⟩ := HCl.out _ (below_two HB3.out hS0); go_simp
      try simp only [Act.put, List.setIfInBounds_toArray, List.set_cons_zero, List.set_cons_succ]
      refine Till.takeA (i := 3) (oi := { dst := some 25, op := Op.load 26 (Operand.tmp 5), type := 26, pos := "law.go:18", after := #[], guard := none }) (v := .agg #[.string y.name, .int .i64 y.size, .int .i64 y.time, .bool y.dir]) rfl (by kernel_rfl) (by kernel_rfl) (by kernel_rfl) (by rfl) (fun _ _ _ h => h) (Or.inl ⟨by rfl, fun w0 hS0 => ?_⟩) (by assumption) ?_
      · obtain ⟨r0, r1, r2, r3, r4, r5, r6, r7⟩ := HCl.out _ (below_two HB3.out hS0); go_simp
      try simp only [Act.put, List.setIfInBounds_toArray, List.set_cons_zero, List.set_cons_succ]
      refine Till.next (i := 4) (o := { dst := some 26, op := Op.call { callee := Callee.value (Operand.func 12), args := #[Operand.tmp 23, Operand.tmp 24, Operand.tmp 25], argTypes := #[3, 26, 26] }, type := 3, pos := "law.go:18", after := #[{ on := 1, ground := Ground.data }, { on := 2, ground := Ground.data }, { on := 3, ground := Ground.data }], guard := none }) (by kernel_rfl) rfl (fun K hK => ?_)
      go_simp
      refine (HRc.out _).mono ?_
      rintro e w5 ⟨rfl, hb⟩
      have hHeld5 : Below w4.heap.size w4 w5 := below_two hHeld hb
      clear hb
      go_wp2_with fail
      refine hK.out _ _ (fun _ => hHeld5) ?_
      clear hK K
      try simp only [Act.put, List.setIfInBounds_toArray, List.set_cons_zero, List.set_cons_succ]
      refine Till.takeA (i := 5) (oi := { dst := some 27, op := Op.binOp BinOp.eql 3 (Operand.tmp 22) (Operand.tmp 26) 3, type := 4, pos := "law.go:18", after := #[{ on := 0, ground := Ground.data }, { on := 4, ground := Ground.data }], guard := none }) (v := .bool true) rfl (by kernel_rfl) (by kernel_rfl) (by kernel_rfl) (by rfl) (fun _ _ _ h => h) (Or.inl ⟨by rfl, fun w0 hS0 => ?_⟩) (by assumption) ?_
      · go_simp
      try simp only [Act.put, List.setIfInBounds_toArray, List.set_cons_zero, List.set_cons_succ]
      refine Till.takeA (i := 6) (oi := { dst := some 28, op := Op.move (Operand.tmp 27), type := 4, pos := "law.go:18", after := #[{ on := 5, ground := Ground.data }, { on := 4, ground := Ground.chain }], guard := none }) (v := .bool true) rfl (by kernel_rfl) (by kernel_rfl) (by kernel_rfl) (by rfl) (fun _ _ _ h => h) (Or.inl ⟨by rfl, fun w0 hS0 => ?_⟩) (by assumption) ?_
      · go_simp
      try simp only [Act.put, List.setIfInBounds_toArray, List.set_cons_zero, List.set_cons_succ]
      refine Till.takeA (i := 7) (oi := { dst := some 29, op := Op.move (Operand.tmp 7), type := 3, pos := "law.go:18", after := #[{ on := 6, ground := Ground.guard }], guard := some (6, true) }) (v := .int .i64 C) rfl (by kernel_rfl) (by kernel_rfl) (by kernel_rfl) (by rfl) (fun _ _ _ h => h) (Or.inl ⟨by rfl, fun w0 hS0 => ?_⟩) (by assumption) ?_
      · go_simp
      try simp only [Act.put, List.setIfInBounds_toArray, List.set_cons_zero, List.set_cons_succ]
      refine Till.takeA (i := 8) (oi := { dst := some 30, op := Op.binOp BinOp.eql 3 (Operand.tmp 29) (Operand.const (Value.int IntKind.i64 0)) 3, type := 4, pos := "law.go:18", after := #[{ on := 7, ground := Ground.data }, { on := 6, ground := Ground.guard }], guard := some (6, true) }) (v := .bool false) rfl (by kernel_rfl) (by kernel_rfl) (by kernel_rfl) (by rfl) (fun _ _ _ h => h) (Or.inl ⟨by rfl, fun w0 hS0 => ?_⟩) (by assumption) ?_
      · have hq := HZq.out; go_simp
      try simp only [Act.put, List.setIfInBounds_toArray, List.set_cons_zero, List.set_cons_succ]
      refine Till.takeA (i := 9) (oi := { dst := some 31, op := Op.fieldAddr 26 (Operand.tmp 4) 0, type := 0, pos := "law.go:18", after := #[{ on := 6, ground := Ground.guard }], guard := some (6, true) }) (v := .pointer (some ⟨w.heap.size, 0, none⟩)) rfl (by kernel_rfl) (by kernel_rfl) (by kernel_rfl) (by rfl) (fun _ _ _ h => h) (Or.inl ⟨by rfl, fun w0 hS0 => ?_⟩) (by assumption) ?_
      · go_simp
      try simp only [Act.put, List.setIfInBounds_toArray, List.set_cons_zero, List.set_cons_succ]
      refine Till.takeA (i := 10) (oi := { dst := some 32, op := Op.load 9 (Operand.tmp 31), type := 9, pos := "law.go:18", after := #[{ on := 9, ground := Ground.data }, { on := 6, ground := Ground.guard }], guard := some (6, true) }) (v := .string x.name) rfl (by kernel_rfl) (by kernel_rfl) (by kernel_rfl) (by rfl) (fun _ _ _ h => h) (Or.inl ⟨by rfl, fun w0 hS0 => ?_⟩) (by assumption) ?_
      · obtain ⟨r0, r1, r2, r3, r4, r5, r6, r7⟩ := HCl.out _ (below_two HB3.out hS0); go_simp
      try simp only [Act.put, List.setIfInBounds_toArray, List.set_cons_zero, List.set_cons_succ]
      refine Till.takeA (i := 11) (oi := { dst := some 33, op := Op.fieldAddr 26 (Operand.tmp 5) 0, type := 0, pos := "law.go:18", after := #[{ on := 6, ground := Ground.guard }], guard := some (6, true) }) (v := .pointer (some ⟨w.heap.size + 1, 0, none⟩)) rfl (by kernel_rfl) (by kernel_rfl) (by kernel_rfl) (by rfl) (fun _ _ _ h => h) (Or.inl ⟨by rfl, fun w0 hS0 => ?_⟩) (by assumption) ?_
      · go_simp
      try simp only [Act.put, List.setIfInBounds_toArray, List.set_cons_zero, List.set_cons_succ]
      refine Till.takeA (i := 12) (oi := { dst := some 34, op := Op.load 9 (Operand.tmp 33), type := 9, pos := "law.go:18", after := #[{ on := 11, ground := Ground.data }, { on := 6, ground := Ground.guard }], guard := some (6, true) }) (v := .string y.name) rfl (by kernel_rfl) (by kernel_rfl) (by kernel_rfl) (by rfl) (fun _ _ _ h => h) (Or.inl ⟨by rfl, fun w0 hS0 => ?_⟩) (by assumption) ?_
      · obtain ⟨r0, r1, r2, r3, r4, r5, r6, r7⟩ := HCl.out _ (below_two HB3.out hS0); go_simp
      try simp only [Act.put, List.setIfInBounds_toArray, List.set_cons_zero, List.set_cons_succ]
      refine Till.takeA (i := 13) (oi := { dst := some 35, op := Op.binOp BinOp.eql 9 (Operand.tmp 32) (Operand.tmp 34) 9, type := 4, pos := "law.go:18", after := #[{ on := 10, ground := Ground.data }, { on := 12, ground := Ground.data }, { on := 6, ground := Ground.guard }], guard := some (6, true) }) (v := .bool false) rfl (by kernel_rfl) (by kernel_rfl) (by kernel_rfl) (by rfl) (fun _ _ _ h => h) (Or.inl ⟨by rfl, fun w0 hS0 => ?_⟩) (by assumption) ?_
      · obtain ⟨hq1, hq2, hq3⟩ := HNq.out; go_simp
      try simp only [Act.put, List.setIfInBounds_toArray, List.set_cons_zero, List.set_cons_succ]
      refine Till.takeA (i := 14) (oi := { dst := some 36, op := Op.move (Operand.tmp 35), type := 4, pos := "law.go:18", after := #[{ on := 13, ground := Ground.data }, { on := 6, ground := Ground.chain }, { on := 6, ground := Ground.guard }], guard := some (6, true) }) (v := .bool false) rfl (by kernel_rfl) (by kernel_rfl) (by kernel_rfl) (by rfl) (fun _ _ _ h => h) (Or.inl ⟨by rfl, fun w0 hS0 => ?_⟩) (by assumption) ?_
      · go_simp
      try simp only [Act.put, List.setIfInBounds_toArray, List.set_cons_zero, List.set_cons_succ]
      refine Till.takeA (i := 15) (oi := { dst := some 37, op := Op.move (Operand.tmp 0), type := 3, pos := "law.go:18", after := #[{ on := 14, ground := Ground.guard }], guard := some (14, true) }) (v := undef) rfl (by kernel_rfl) (by kernel_rfl) (by kernel_rfl) (by rfl) (fun _ _ _ h => h) (Or.inr ⟨by rfl, rfl⟩) (by assumption) ?_
      try simp only [Act.put, List.setIfInBounds_toArray, List.set_cons_zero, List.set_cons_succ]
      refine Till.takeA (i := 16) (oi := { dst := some 38, op := Op.binOp BinOp.neq 3 (Operand.tmp 37) (Operand.const (Value.int IntKind.i64 1)) 3, type := 4, pos := "law.go:18", after := #[{ on := 15, ground := Ground.data }, { on := 14, ground := Ground.guard }], guard := some (14, true) }) (v := undef) rfl (by kernel_rfl) (by kernel_rfl) (by kernel_rfl) (by rfl) (fun _ _ _ h => h) (Or.inr ⟨by rfl, rfl⟩) (by assumption) ?_
      try simp only [Act.put, List.setIfInBounds_toArray, List.set_cons_zero, List.set_cons_succ]
      refine Till.takeA (i := 17) (oi := { dst := some 39, op := Op.move (Operand.tmp 38), type := 4, pos := "law.go:18", after := #[{ on := 16, ground := Ground.data }, { on := 14, ground := Ground.chain }, { on := 14, ground := Ground.guard }], guard := some (14, true) }) (v := undef) rfl (by kernel_rfl) (by kernel_rfl) (by kernel_rfl) (by rfl) (fun _ _ _ h => h) (Or.inr ⟨by rfl, rfl⟩) (by assumption) ?_
      try simp only [Act.put, List.setIfInBounds_toArray, List.set_cons_zero, List.set_cons_succ]
      refine Till.takeA (i := 18) (oi := { dst := some 40, op := Op.fieldAddr 26 (Operand.tmp 4) 1, type := 0, pos := "law.go:18", after := #[{ on := 17, ground := Ground.guard }], guard := some (17, false) }) (v := undef) rfl (by kernel_rfl) (by kernel_rfl) (by kernel_rfl) (by rfl) (fun _ _ _ h => h) (Or.inr ⟨by rfl, rfl⟩) (by assumption) ?_
      try simp only [Act.put, List.setIfInBounds_toArray, List.set_cons_zero, List.set_cons_succ]
      refine Till.takeA (i := 19) (oi := { dst := some 41, op := Op.load 2 (Operand.tmp 40), type := 2, pos := "law.go:18", after := #[{ on := 18, ground := Ground.data }, { on := 17, ground := Ground.guard }], guard := some (17, false) }) (v := undef) rfl (by kernel_rfl) (by kernel_rfl) (by kernel_rfl) (by rfl) (fun _ _ _ h => h) (Or.inr ⟨by rfl, rfl⟩) (by assumption) ?_
      try simp only [Act.put, List.setIfInBounds_toArray, List.set_cons_zero, List.set_cons_succ]
      refine Till.takeA (i := 20) (oi := { dst := some 42, op := Op.fieldAddr 26 (Operand.tmp 5) 1, type := 0, pos := "law.go:18", after := #[{ on := 17, ground := Ground.guard }], guard := some (17, false) }) (v := undef) rfl (by kernel_rfl) (by kernel_rfl) (by kernel_rfl) (by rfl) (fun _ _ _ h => h) (Or.inr ⟨by rfl, rfl⟩) (by assumption) ?_
      try simp only [Act.put, List.setIfInBounds_toArray, List.set_cons_zero, List.set_cons_succ]
      refine Till.takeA (i := 21) (oi := { dst := some 43, op := Op.load 2 (Operand.tmp 42), type := 2, pos := "law.go:18", after := #[{ on := 20, ground := Ground.data }, { on := 17, ground := Ground.guard }], guard := some (17, false) }) (v := undef) rfl (by kernel_rfl) (by kernel_rfl) (by kernel_rfl) (by rfl) (fun _ _ _ h => h) (Or.inr ⟨by rfl, rfl⟩) (by assumption) ?_
      try simp only [Act.put, List.setIfInBounds_toArray, List.set_cons_zero, List.set_cons_succ]
      refine Till.takeA (i := 22) (oi := { dst := some 44, op := Op.binOp BinOp.eql 2 (Operand.tmp 41) (Operand.tmp 43) 2, type := 4, pos := "law.go:18", after := #[{ on := 19, ground := Ground.data }, { on := 21, ground := Ground.data }, { on := 17, ground := Ground.guard }], guard := some (17, false) }) (v := undef) rfl (by kernel_rfl) (by kernel_rfl) (by kernel_rfl) (by rfl) (fun _ _ _ h => h) (Or.inr ⟨by rfl, rfl⟩) (by assumption) ?_
      try simp only [Act.put, List.setIfInBounds_toArray, List.set_cons_zero, List.set_cons_succ]
      refine Till.takeA (i := 23) (oi := { dst := some 45, op := Op.pick (Operand.tmp 39) (Operand.const (Value.bool true)) (Operand.tmp 44), type := 4, pos := "law.go:18", after := #[{ on := 17, ground := Ground.data }, { on := 22, ground := Ground.data }, { on := 14, ground := Ground.guard }], guard := some (14, true) }) (v := undef) rfl (by kernel_rfl) (by kernel_rfl) (by kernel_rfl) (by rfl) (fun _ _ _ h => h) (Or.inr ⟨by rfl, rfl⟩) (by assumption) ?_
      try simp only [Act.put, List.setIfInBounds_toArray, List.set_cons_zero, List.set_cons_succ]
      refine Till.takeA (i := 24) (oi := { dst := some 46, op := Op.pick (Operand.tmp 36) (Operand.tmp 45) (Operand.const (Value.bool false)), type := 4, pos := "law.go:18", after := #[{ on := 14, ground := Ground.data }, { on := 23, ground := Ground.data }, { on := 6, ground := Ground.guard }], guard := some (6, true) }) (v := .bool false) rfl (by kernel_rfl) (by kernel_rfl) (by kernel_rfl) (by rfl) (fun _ _ _ h => h) (Or.inl ⟨by rfl, fun w0 hS0 => ?_⟩) (by assumption) ?_
      · go_simp
      try simp only [Act.put, List.setIfInBounds_toArray, List.set_cons_zero, List.set_cons_succ]
      refine Till.takeA (i := 25) (oi := { dst := some 47, op := Op.move (Operand.tmp 46), type := 4, pos := "law.go:18", after := #[{ on := 24, ground := Ground.data }, { on := 17, ground := Ground.chain }, { on := 6, ground := Ground.guard }], guard := some (6, true) }) (v := .bool false) rfl (by kernel_rfl) (by kernel_rfl) (by kernel_rfl) (by rfl) (fun _ _ _ h => h) (Or.inl ⟨by rfl, fun w0 hS0 => ?_⟩) (by assumption) ?_
      · go_simp
      try simp only [Act.put, List.setIfInBounds_toArray, List.set_cons_zero, List.set_cons_succ]
      refine Till.takeA (i := 26) (oi := { dst := some 48, op := Op.move (Operand.tmp 0), type := 3, pos := "law.go:18", after := #[{ on := 25, ground := Ground.guard }], guard := some (25, true) }) (v := undef) rfl (by kernel_rfl) (by kernel_rfl) (by kernel_rfl) (by rfl) (fun _ _ _ h => h) (Or.inr ⟨by rfl, rfl⟩) (by assumption) ?_
      try simp only [Act.put, List.setIfInBounds_toArray, List.set_cons_zero, List.set_cons_succ]
      refine Till.takeA (i := 27) (oi := { dst := some 49, op := Op.binOp BinOp.neq 3 (Operand.tmp 48) (Operand.const (Value.int IntKind.i64 2)) 3, type := 4, pos := "law.go:18", after := #[{ on := 26, ground := Ground.data }, { on := 25, ground := Ground.guard }], guard := some (25, true) }) (v := undef) rfl (by kernel_rfl) (by kernel_rfl) (by kernel_rfl) (by rfl) (fun _ _ _ h => h) (Or.inr ⟨by rfl, rfl⟩) (by assumption) ?_
      try simp only [Act.put, List.setIfInBounds_toArray, List.set_cons_zero, List.set_cons_succ]
      refine Till.takeA (i := 28) (oi := { dst := some 50, op := Op.move (Operand.tmp 49), type := 4, pos := "law.go:18", after := #[{ on := 27, ground := Ground.data }, { on := 25, ground := Ground.chain }, { on := 25, ground := Ground.guard }], guard := some (25, true) }) (v := undef) rfl (by kernel_rfl) (by kernel_rfl) (by kernel_rfl) (by rfl) (fun _ _ _ h => h) (Or.inr ⟨by rfl, rfl⟩) (by assumption) ?_
      try simp only [Act.put, List.setIfInBounds_toArray, List.set_cons_zero, List.set_cons_succ]
      refine Till.takeA (i := 29) (oi := { dst := some 51, op := Op.fieldAddr 26 (Operand.tmp 4) 2, type := 0, pos := "law.go:18", after := #[{ on := 28, ground := Ground.guard }], guard := some (28, false) }) (v := undef) rfl (by kernel_rfl) (by kernel_rfl) (by kernel_rfl) (by rfl) (fun _ _ _ h => h) (Or.inr ⟨by rfl, rfl⟩) (by assumption) ?_
      try simp only [Act.put, List.setIfInBounds_toArray, List.set_cons_zero, List.set_cons_succ]
      refine Till.takeA (i := 30) (oi := { dst := some 52, op := Op.load 2 (Operand.tmp 51), type := 2, pos := "law.go:18", after := #[{ on := 29, ground := Ground.data }, { on := 28, ground := Ground.guard }], guard := some (28, false) }) (v := undef) rfl (by kernel_rfl) (by kernel_rfl) (by kernel_rfl) (by rfl) (fun _ _ _ h => h) (Or.inr ⟨by rfl, rfl⟩) (by assumption) ?_
      try simp only [Act.put, List.setIfInBounds_toArray, List.set_cons_zero, List.set_cons_succ]
      refine Till.takeA (i := 31) (oi := { dst := some 53, op := Op.fieldAddr 26 (Operand.tmp 5) 2, type := 0, pos := "law.go:18", after := #[{ on := 28, ground := Ground.guard }], guard := some (28, false) }) (v := undef) rfl (by kernel_rfl) (by kernel_rfl) (by kernel_rfl) (by rfl) (fun _ _ _ h => h) (Or.inr ⟨by rfl, rfl⟩) (by assumption) ?_
      try simp only [Act.put, List.setIfInBounds_toArray, List.set_cons_zero, List.set_cons_succ]
      refine Till.takeA (i := 32) (oi := { dst := some 54, op := Op.load 2 (Operand.tmp 53), type := 2, pos := "law.go:18", after := #[{ on := 31, ground := Ground.data }, { on := 28, ground := Ground.guard }], guard := some (28, false) }) (v := undef) rfl (by kernel_rfl) (by kernel_rfl) (by kernel_rfl) (by rfl) (fun _ _ _ h => h) (Or.inr ⟨by rfl, rfl⟩) (by assumption) ?_
      try simp only [Act.put, List.setIfInBounds_toArray, List.set_cons_zero, List.set_cons_succ]
      refine Till.takeA (i := 33) (oi := { dst := some 55, op := Op.binOp BinOp.eql 2 (Operand.tmp 52) (Operand.tmp 54) 2, type := 4, pos := "law.go:18", after := #[{ on := 30, ground := Ground.data }, { on := 32, ground := Ground.data }, { on := 28, ground := Ground.guard }], guard := some (28, false) }) (v := undef) rfl (by kernel_rfl) (by kernel_rfl) (by kernel_rfl) (by rfl) (fun _ _ _ h => h) (Or.inr ⟨by rfl, rfl⟩) (by assumption) ?_
      try simp only [Act.put, List.setIfInBounds_toArray, List.set_cons_zero, List.set_cons_succ]
      refine Till.takeA (i := 34) (oi := { dst := some 56, op := Op.pick (Operand.tmp 50) (Operand.const (Value.bool true)) (Operand.tmp 55), type := 4, pos := "law.go:18", after := #[{ on := 28, ground := Ground.data }, { on := 33, ground := Ground.data }, { on := 25, ground := Ground.guard }], guard := some (25, true) }) (v := undef) rfl (by kernel_rfl) (by kernel_rfl) (by kernel_rfl) (by rfl) (fun _ _ _ h => h) (Or.inr ⟨by rfl, rfl⟩) (by assumption) ?_
      try simp only [Act.put, List.setIfInBounds_toArray, List.set_cons_zero, List.set_cons_succ]
      refine Till.takeA (i := 35) (oi := { dst := some 57, op := Op.pick (Operand.tmp 47) (Operand.tmp 56) (Operand.const (Value.bool false)), type := 4, pos := "law.go:18", after := #[{ on := 25, ground := Ground.data }, { on := 34, ground := Ground.data }, { on := 6, ground := Ground.guard }], guard := some (6, true) }) (v := .bool false) rfl (by kernel_rfl) (by kernel_rfl) (by kernel_rfl) (by rfl) (fun _ _ _ h => h) (Or.inl ⟨by rfl, fun w0 hS0 => ?_⟩) (by assumption) ?_
      · go_simp
      try simp only [Act.put, List.setIfInBounds_toArray, List.set_cons_zero, List.set_cons_succ]
      refine Till.takeA (i := 36) (oi := { dst := some 58, op := Op.binOp BinOp.eql 4 (Operand.tmp 30) (Operand.tmp 57) 4, type := 4, pos := "law.go:18", after := #[{ on := 8, ground := Ground.data }, { on := 35, ground := Ground.data }, { on := 6, ground := Ground.guard }], guard := some (6, true) }) (v := .bool true) rfl (by kernel_rfl) (by kernel_rfl) (by kernel_rfl) (by rfl) (fun _ _ _ h => h) (Or.inl ⟨by rfl, fun w0 hS0 => ?_⟩) (by assumption) ?_
      · go_simp
      try simp only [Act.put, List.setIfInBounds_toArray, List.set_cons_zero, List.set_cons_succ]
      refine Till.takeA (i := 37) (oi := { dst := some 59, op := Op.pick (Operand.tmp 28) (Operand.tmp 58) (Operand.const (Value.bool false)), type := 4, pos := "law.go:18", after := #[{ on := 6, ground := Ground.data }, { on := 36, ground := Ground.data }], guard := none }) (v := .bool true) rfl (by kernel_rfl) (by kernel_rfl) (by kernel_rfl) (by rfl) (fun _ _ _ h => h) (Or.inl ⟨by rfl, fun w0 hS0 => ?_⟩) (by assumption) ?_
      · go_simp
      try simp only [Act.put, List.setIfInBounds_toArray, List.set_cons_zero, List.set_cons_succ]
      refine Till.takeA (i := 38) (oi := { dst := some 60, op := Op.move (Operand.tmp 59), type := 4, pos := "law.go:18", after := #[{ on := 37, ground := Ground.data }, { on := 28, ground := Ground.chain }], guard := none }) (v := .bool true) rfl (by kernel_rfl) (by kernel_rfl) (by kernel_rfl) (by rfl) (fun _ _ _ h => h) (Or.inl ⟨by rfl, fun w0 hS0 => ?_⟩) (by assumption) ?_
      · go_simp
      try simp only [Act.put, List.setIfInBounds_toArray, List.set_cons_zero, List.set_cons_succ]
      refine Till.takeA (i := 39) (oi := { dst := some 61, op := Op.fieldAddr 26 (Operand.tmp 4) 0, type := 0, pos := "law.go:18", after := #[{ on := 38, ground := Ground.guard }], guard := some (38, true) }) (v := .pointer (some ⟨w.heap.size, 0, none⟩)) rfl (by kernel_rfl) (by kernel_rfl) (by kernel_rfl) (by rfl) (fun _ _ _ h => h) (Or.inl ⟨by rfl, fun w0 hS0 => ?_⟩) (by assumption) ?_
      · go_simp
      try simp only [Act.put, List.setIfInBounds_toArray, List.set_cons_zero, List.set_cons_succ]
      refine Till.takeA (i := 40) (oi := { dst := some 62, op := Op.load 9 (Operand.tmp 61), type := 9, pos := "law.go:18", after := #[{ on := 39, ground := Ground.data }, { on := 38, ground := Ground.guard }], guard := some (38, true) }) (v := .string x.name) rfl (by kernel_rfl) (by kernel_rfl) (by kernel_rfl) (by rfl) (fun _ _ _ h => h) (Or.inl ⟨by rfl, fun w0 hS0 => ?_⟩) (by assumption) ?_
      · obtain ⟨r0, r1, r2, r3, r4, r5, r6, r7⟩ := HCl.out _ (below_two HB3.out hS0); go_simp
      try simp only [Act.put, List.setIfInBounds_toArray, List.set_cons_zero, List.set_cons_succ]
      refine Till.takeA (i := 42) (oi := { dst := some 64, op := Op.fieldAddr 26 (Operand.tmp 4) 0, type := 0, pos := "law.go:18", after := #[{ on := 38, ground := Ground.guard }], guard := some (38, true) }) (v := .pointer (some ⟨w.heap.size, 0, none⟩)) rfl (by kernel_rfl) (by kernel_rfl) (by kernel_rfl) (by rfl) (fun _ _ _ h => h) (Or.inl ⟨by rfl, fun w0 hS0 => ?_⟩) (by assumption) ?_
      · go_simp
      try simp only [Act.put, List.setIfInBounds_toArray, List.set_cons_zero, List.set_cons_succ]
      refine Till.takeA (i := 43) (oi := { dst := some 65, op := Op.load 9 (Operand.tmp 64), type := 9, pos := "law.go:18", after := #[{ on := 42, ground := Ground.data }, { on := 38, ground := Ground.guard }], guard := some (38, true) }) (v := .string x.name) rfl (by kernel_rfl) (by kernel_rfl) (by kernel_rfl) (by rfl) (fun _ _ _ h => h) (Or.inl ⟨by rfl, fun w0 hS0 => ?_⟩) (by assumption) ?_
      · obtain ⟨r0, r1, r2, r3, r4, r5, r6, r7⟩ := HCl.out _ (below_two HB3.out hS0); go_simp
      try simp only [Act.put, List.setIfInBounds_toArray, List.set_cons_zero, List.set_cons_succ]
      refine Till.next (i := 41) (o := { dst := some 63, op := Op.call { callee := Callee.value (Operand.func 13), args := #[Operand.tmp 62], argTypes := #[9] }, type := 9, pos := "law.go:18", after := #[{ on := 40, ground := Ground.data }, { on := 38, ground := Ground.chain }, { on := 38, ground := Ground.guard }], guard := some (38, true) }) (by kernel_rfl) rfl (fun K hK => ?_)
      go_simp
      refine (HEp.out _ (below_two HBq.out hHeld5)).mono ?_
      rintro e w6 ⟨rfl, hb⟩
      have hHeld6 : Below w4.heap.size w4 w6 := below_two hHeld5 hb
      clear hb
      go_wp2_with fail
      refine hK.out _ _ (fun _ => hHeld6) ?_
      clear hK K
      try simp only [Act.put, List.setIfInBounds_toArray, List.set_cons_zero, List.set_cons_succ]
      refine Till.next (i := 44) (o := { dst := some 66, op := Op.call { callee := Callee.value (Operand.func 14), args := #[Operand.tmp 65], argTypes := #[9] }, type := 9, pos := "law.go:18", after := #[{ on := 43, ground := Ground.data }, { on := 41, ground := Ground.chain }, { on := 38, ground := Ground.guard }], guard := some (38, true) }) (by kernel_rfl) rfl (fun K hK => ?_)
      go_simp
      refine (HEr.out _).mono ?_
      rintro e w7 ⟨rfl, hb⟩
      have hHeld7 : Below w4.heap.size w4 w7 := by rw [← hb]; exact hHeld6
      clear hb
      go_wp2_with fail
      refine hK.out _ _ (fun _ => hHeld7) ?_
      clear hK K
      try simp only [Act.put, List.setIfInBounds_toArray, List.set_cons_zero, List.set_cons_succ]
      refine Till.takeA (i := 45) (oi := { dst := some 67, op := Op.binOp BinOp.eql 9 (Operand.tmp 63) (Operand.tmp 66) 9, type := 4, pos := "law.go:18", after := #[{ on := 41, ground := Ground.data }, { on := 44, ground := Ground.data }, { on := 38, ground := Ground.guard }], guard := some (38, true) }) (v := .bool true) rfl (by kernel_rfl) (by kernel_rfl) (by kernel_rfl) (by rfl) (fun _ _ _ h => h) (Or.inl ⟨by rfl, fun w0 hS0 => ?_⟩) (by assumption) ?_
      · go_simp
      try simp only [Act.put, List.setIfInBounds_toArray, List.set_cons_zero, List.set_cons_succ]
      refine Till.takeA (i := 46) (oi := { dst := some 68, op := Op.pick (Operand.tmp 60) (Operand.tmp 67) (Operand.const (Value.bool false)), type := 4, pos := "law.go:18", after := #[{ on := 38, ground := Ground.data }, { on := 45, ground := Ground.data }], guard := none }) (v := .bool true) rfl (by kernel_rfl) (by kernel_rfl) (by kernel_rfl) (by rfl) (fun _ _ _ h => h) (Or.inl ⟨by rfl, fun w0 hS0 => ?_⟩) (by assumption) ?_
      · go_simp
      try simp only [Act.put, List.setIfInBounds_toArray, List.set_cons_zero, List.set_cons_succ]
      refine Till.takeA (i := 47) (oi := { dst := some 69, op := Op.move (Operand.tmp 68), type := 4, pos := "law.go:18", after := #[{ on := 46, ground := Ground.data }, { on := 44, ground := Ground.chain }], guard := none }) (v := .bool true) rfl (by kernel_rfl) (by kernel_rfl) (by kernel_rfl) (by rfl) (fun _ _ _ h => h) (Or.inl ⟨by rfl, fun w0 hS0 => ?_⟩) (by assumption) ?_
      · go_simp
      try simp only [Act.put, List.setIfInBounds_toArray, List.set_cons_zero, List.set_cons_succ]
      refine Till.takeA (i := 48) (oi := { dst := some 70, op := Op.fieldAddr 26 (Operand.tmp 4) 0, type := 0, pos := "law.go:18", after := #[{ on := 47, ground := Ground.guard }], guard := some (47, true) }) (v := .pointer (some ⟨w.heap.size, 0, none⟩)) rfl (by kernel_rfl) (by kernel_rfl) (by kernel_rfl) (by rfl) (fun _ _ _ h => h) (Or.inl ⟨by rfl, fun w0 hS0 => ?_⟩) (by assumption) ?_
      · go_simp
      try simp only [Act.put, List.setIfInBounds_toArray, List.set_cons_zero, List.set_cons_succ]
      refine Till.takeA (i := 49) (oi := { dst := some 71, op := Op.load 9 (Operand.tmp 70), type := 9, pos := "law.go:18", after := #[{ on := 48, ground := Ground.data }, { on := 47, ground := Ground.guard }], guard := some (47, true) }) (v := .string x.name) rfl (by kernel_rfl) (by kernel_rfl) (by kernel_rfl) (by rfl) (fun _ _ _ h => h) (Or.inl ⟨by rfl, fun w0 hS0 => ?_⟩) (by assumption) ?_
      · obtain ⟨r0, r1, r2, r3, r4, r5, r6, r7⟩ := HCl.out _ (below_two HB3.out hS0); go_simp
      try simp only [Act.put, List.setIfInBounds_toArray, List.set_cons_zero, List.set_cons_succ]
      refine Till.takeA (i := 50) (oi := { dst := some 72, op := Op.fieldAddr 26 (Operand.tmp 5) 0, type := 0, pos := "law.go:18", after := #[{ on := 47, ground := Ground.guard }], guard := some (47, true) }) (v := .pointer (some ⟨w.heap.size + 1, 0, none⟩)) rfl (by kernel_rfl) (by kernel_rfl) (by kernel_rfl) (by rfl) (fun _ _ _ h => h) (Or.inl ⟨by rfl, fun w0 hS0 => ?_⟩) (by assumption) ?_
      · go_simp
      try simp only [Act.put, List.setIfInBounds_toArray, List.set_cons_zero, List.set_cons_succ]
      refine Till.takeA (i := 51) (oi := { dst := some 73, op := Op.load 9 (Operand.tmp 72), type := 9, pos := "law.go:18", after := #[{ on := 50, ground := Ground.data }, { on := 47, ground := Ground.guard }], guard := some (47, true) }) (v := .string y.name) rfl (by kernel_rfl) (by kernel_rfl) (by kernel_rfl) (by rfl) (fun _ _ _ h => h) (Or.inl ⟨by rfl, fun w0 hS0 => ?_⟩) (by assumption) ?_
      · obtain ⟨r0, r1, r2, r3, r4, r5, r6, r7⟩ := HCl.out _ (below_two HB3.out hS0); go_simp
      try simp only [Act.put, List.setIfInBounds_toArray, List.set_cons_zero, List.set_cons_succ]
      refine Till.takeA (i := 53) (oi := { dst := some 75, op := Op.fieldAddr 26 (Operand.tmp 4) 0, type := 0, pos := "law.go:18", after := #[{ on := 47, ground := Ground.guard }], guard := some (47, true) }) (v := .pointer (some ⟨w.heap.size, 0, none⟩)) rfl (by kernel_rfl) (by kernel_rfl) (by kernel_rfl) (by rfl) (fun _ _ _ h => h) (Or.inl ⟨by rfl, fun w0 hS0 => ?_⟩) (by assumption) ?_
      · go_simp
      try simp only [Act.put, List.setIfInBounds_toArray, List.set_cons_zero, List.set_cons_succ]
      refine Till.takeA (i := 54) (oi := { dst := some 76, op := Op.load 9 (Operand.tmp 75), type := 9, pos := "law.go:18", after := #[{ on := 53, ground := Ground.data }, { on := 47, ground := Ground.guard }], guard := some (47, true) }) (v := .string x.name) rfl (by kernel_rfl) (by kernel_rfl) (by kernel_rfl) (by rfl) (fun _ _ _ h => h) (Or.inl ⟨by rfl, fun w0 hS0 => ?_⟩) (by assumption) ?_
      · obtain ⟨r0, r1, r2, r3, r4, r5, r6, r7⟩ := HCl.out _ (below_two HB3.out hS0); go_simp
      try simp only [Act.put, List.setIfInBounds_toArray, List.set_cons_zero, List.set_cons_succ]
      refine Till.takeA (i := 55) (oi := { dst := some 77, op := Op.fieldAddr 26 (Operand.tmp 5) 0, type := 0, pos := "law.go:18", after := #[{ on := 47, ground := Ground.guard }], guard := some (47, true) }) (v := .pointer (some ⟨w.heap.size + 1, 0, none⟩)) rfl (by kernel_rfl) (by kernel_rfl) (by kernel_rfl) (by rfl) (fun _ _ _ h => h) (Or.inl ⟨by rfl, fun w0 hS0 => ?_⟩) (by assumption) ?_
      · go_simp
      try simp only [Act.put, List.setIfInBounds_toArray, List.set_cons_zero, List.set_cons_succ]
      refine Till.takeA (i := 56) (oi := { dst := some 78, op := Op.load 9 (Operand.tmp 77), type := 9, pos := "law.go:18", after := #[{ on := 55, ground := Ground.data }, { on := 47, ground := Ground.guard }], guard := some (47, true) }) (v := .string y.name) rfl (by kernel_rfl) (by kernel_rfl) (by kernel_rfl) (by rfl) (fun _ _ _ h => h) (Or.inl ⟨by rfl, fun w0 hS0 => ?_⟩) (by assumption) ?_
      · obtain ⟨r0, r1, r2, r3, r4, r5, r6, r7⟩ := HCl.out _ (below_two HB3.out hS0); go_simp
      try simp only [Act.put, List.setIfInBounds_toArray, List.set_cons_zero, List.set_cons_succ]
      refine Till.next (i := 52) (o := { dst := some 74, op := Op.call { callee := Callee.value (Operand.func 15), args := #[Operand.tmp 71, Operand.tmp 73], argTypes := #[9, 9] }, type := 3, pos := "law.go:18", after := #[{ on := 49, ground := Ground.data }, { on := 51, ground := Ground.data }, { on := 47, ground := Ground.chain }, { on := 47, ground := Ground.guard }], guard := some (47, true) }) (by kernel_rfl) rfl (fun K hK => ?_)
      go_simp
      refine (HVp.out _ (below_two HBq.out hHeld7)).mono ?_
      rintro e w8 ⟨rfl, hb⟩
      have hHeld8 : Below w4.heap.size w4 w8 := below_two hHeld7 hb
      clear hb
      go_wp2_with fail
      refine hK.out _ _ (fun _ => hHeld8) ?_
      clear hK K
      try simp only [Act.put, List.setIfInBounds_toArray, List.set_cons_zero, List.set_cons_succ]
      refine Till.next (i := 57) (o := { dst := some 79, op := Op.call { callee := Callee.value (Operand.func 16), args := #[Operand.tmp 76, Operand.tmp 78], argTypes := #[9, 9] }, type := 3, pos := "law.go:18", after := #[{ on := 54, ground := Ground.data }, { on := 56, ground := Ground.data }, { on := 52, ground := Ground.chain }, { on := 47, ground := Ground.guard }], guard := some (47, true) }) (by kernel_rfl) rfl (fun K hK => ?_)
      go_simp
      refine (HVr.out _).mono ?_
      rintro e w9 ⟨rfl, hb⟩
      have hHeld9 : Below w4.heap.size w4 w9 := below_two hHeld8 hb
      clear hb
      go_wp2_with fail
      refine hK.out _ _ (fun _ => hHeld9) ?_
      clear hK K
      try simp only [Act.put, List.setIfInBounds_toArray, List.set_cons_zero, List.set_cons_succ]
      refine Till.takeA (i := 58) (oi := { dst := some 80, op := Op.binOp BinOp.eql 3 (Operand.tmp 74) (Operand.tmp 79) 3, type := 4, pos := "law.go:18", after := #[{ on := 52, ground := Ground.data }, { on := 57, ground := Ground.data }, { on := 47, ground := Ground.guard }], guard := some (47, true) }) (v := .bool true) rfl (by kernel_rfl) (by kernel_rfl) (by kernel_rfl) (by rfl) (fun _ _ _ h => h) (Or.inl ⟨by rfl, fun w0 hS0 => ?_⟩) (by assumption) ?_
      · go_simp
      try simp only [Act.put, List.setIfInBounds_toArray, List.set_cons_zero, List.set_cons_succ]
      refine Till.takeA (i := 59) (oi := { dst := some 81, op := Op.pick (Operand.tmp 69) (Operand.tmp 80) (Operand.const (Value.bool false)), type := 4, pos := "law.go:18", after := #[{ on := 47, ground := Ground.data }, { on := 58, ground := Ground.data }], guard := none }) (v := .bool true) rfl (by kernel_rfl) (by kernel_rfl) (by kernel_rfl) (by rfl) (fun _ _ _ h => h) (Or.inl ⟨by rfl, fun w0 hS0 => ?_⟩) (by assumption) ?_
      · go_simp
      try simp only [Act.put, List.setIfInBounds_toArray, List.set_cons_zero, List.set_cons_succ]
      refine Till.takeA (i := 60) (oi := { dst := some 6, op := Op.assign (Operand.tmp 81), type := 4, pos := "law.go:18", after := #[{ on := 59, ground := Ground.data }, { on := 57, ground := Ground.chain }, { on := 0, ground := Ground.phase }, { on := 1, ground := Ground.phase }, { on := 2, ground := Ground.phase }, { on := 3, ground := Ground.phase }, { on := 4, ground := Ground.phase }, { on := 5, ground := Ground.phase }, { on := 6, ground := Ground.phase }, { on := 7, ground := Ground.phase }, { on := 8, ground := Ground.phase }, { on := 9, ground := Ground.phase }, { on := 10, ground := Ground.phase }, { on := 11, ground := Ground.phase }, { on := 12, ground := Ground.phase }, { on := 13, ground := Ground.phase }, { on := 14, ground := Ground.phase }, { on := 15, ground := Ground.phase }, { on := 16, ground := Ground.phase }, { on := 17, ground := Ground.phase }, { on := 18, ground := Ground.phase }, { on := 19, ground := Ground.phase }, { on := 20, ground := Ground.phase }, { on := 21, ground := Ground.phase }, { on := 22, ground := Ground.phase }, { on := 23, ground := Ground.phase }, { on := 24, ground := Ground.phase }, { on := 25, ground := Ground.phase }, { on := 26, ground := Ground.phase }, { on := 27, ground := Ground.phase }, { on := 28, ground := Ground.phase }, { on := 29, ground := Ground.phase }, { on := 30, ground := Ground.phase }, { on := 31, ground := Ground.phase }, { on := 32, ground := Ground.phase }, { on := 33, ground := Ground.phase }, { on := 34, ground := Ground.phase }, { on := 35, ground := Ground.phase }, { on := 36, ground := Ground.phase }, { on := 37, ground := Ground.phase }, { on := 38, ground := Ground.phase }, { on := 39, ground := Ground.phase }, { on := 40, ground := Ground.phase }, { on := 41, ground := Ground.phase }, { on := 42, ground := Ground.phase }, { on := 43, ground := Ground.phase }, { on := 44, ground := Ground.phase }, { on := 45, ground := Ground.phase }, { on := 46, ground := Ground.phase }, { on := 47, ground := Ground.phase }, { on := 48, ground := Ground.phase }, { on := 49, ground := Ground.phase }, { on := 50, ground := Ground.phase }, { on := 51, ground := Ground.phase }, { on := 52, ground := Ground.phase }, { on := 53, ground := Ground.phase }, { on := 54, ground := Ground.phase }, { on := 55, ground := Ground.phase }, { on := 56, ground := Ground.phase }, { on := 57, ground := Ground.phase }, { on := 58, ground := Ground.phase }, { on := 59, ground := Ground.phase }], guard := none }) (v := .bool true) rfl (by kernel_rfl) (by kernel_rfl) (by kernel_rfl) (by rfl) (fun _ _ _ h => h) (Or.inl ⟨by rfl, fun w0 hS0 => ?_⟩) (by assumption) ?_
      · go_simp
      try simp only [Act.put, List.setIfInBounds_toArray, List.set_cons_zero, List.set_cons_succ]
      refine Till.done (by kernel_rfl) ?_
-- TILL 40 END
      go_wp2
      go_ret
      exact ⟨rfl, below_two HBq.out hHeld9⟩
end Go.Proofs.YteeddednonmglaaDoor
