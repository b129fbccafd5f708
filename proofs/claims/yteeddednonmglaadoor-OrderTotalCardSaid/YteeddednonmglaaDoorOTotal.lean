/-
  That the law OrderTotal returns true. Conditions: what came in lies in memory.
-/
import Derived.Test.YteeddednonmglaaDoorOSorts
set_option linter.unusedVariables false
namespace Go.Proofs.YteeddednonmglaaDoor
open Go.RowKit

def keys3C (x y z : Ky) : Array Value := #[.string x.name, .int .i64 x.size, .int .i64 x.time, .bool x.dir, .string y.name, .int .i64 y.size, .int .i64 y.time, .bool y.dir, .string z.name, .int .i64 z.size, .int .i64 z.time, .bool z.dir]
theorem keys3_is {w : World} {b : Nat} {x y z : Ky} {t : TypeId} (h : w.heap[b]? = some (.cells (keys3C x y z) t (0, 0))) : IsKeys w (some ⟨b, 0, none⟩) [x, y, z] := by
  refine .inr ⟨b, 0, rfl, heap_lt h, fun k c hk j v hj => ?_⟩
  have hj4 : j < 4 := (List.getElem?_eq_some_iff.1 hj).1
  rw [cell_of_row _ _ _ _ _ _ h]
  match k, hk with
  | 0, hk =>
    obtain rfl : x = c := by simpa using hk
    match j, hj4, hj with
    | 0, _, hj => exact hj
    | 1, _, hj => exact hj
    | 2, _, hj => exact hj
    | 3, _, hj => exact hj
  | 1, hk =>
    obtain rfl : y = c := by simpa using hk
    match j, hj4, hj with
    | 0, _, hj => exact hj
    | 1, _, hj => exact hj
    | 2, _, hj => exact hj
    | 3, _, hj => exact hj
  | 2, hk =>
    obtain rfl : z = c := by simpa using hk
    match j, hj4, hj with
    | 0, _, hj => exact hj
    | 1, _, hj => exact hj
    | 2, _, hj => exact hj
    | 3, _, hj => exact hj
  | n + 3, hk => simp at hk

set_option maxRecDepth 100000 in
set_option maxHeartbeats 8000000 in
theorem totals_any (o : Int) (x y z : Ky) (w : World) (hp : PT w) (hz : ∀ c ∈ [x, y, z], c.name.size ≤ 9223372036854775807) :
    Calls Tryd.prog 6 #[.int .i64 o, .agg (keys3C x y z)] w fun e w' => e = .returned (.bool true) ∧ Below w.heap.size w w' := by
  have HT := Lib.hid hp
  have HAw := Lib.hid (fun W (hb : Below w.heap.size w W) => oawake_any W (hp.keep hb))
  have HZ := Lib.hid hz
  clear hp hz
  go_enter Tryd.func6, Tryd.ntmps6
  unfold keys3C
  go_upto_region 1 with fail
  have HX0 := Lib.hid (heap_alloc_new w (.cells (keys3C x y z) 36))
  have HB0 := Lib.hid (show Below w.heap.size w (w.alloc (.cells (keys3C x y z) 36)) from (Below.refl _ _).alloc (Nat.le_refl _) _)
  unfold keys3C at HX0 HB0
  generalize w.alloc (.cells #[.string x.name, .int .i64 x.size, .int .i64 x.time, .bool x.dir, .string y.name, .int .i64 y.size, .int .i64 y.time, .bool y.dir, .string z.name, .int .i64 z.size, .int .i64 z.time, .bool z.dir] 36) = w0 at HX0 HB0 ⊢
  have HCl := Lib.hid (show ∀ W, Below w0.heap.size w0 W → W.cell? ⟨w.heap.size, 0, none⟩ = some (.string x.name) ∧ W.cell? ⟨w.heap.size, 1, none⟩ = some (.int .i64 x.size) ∧ W.cell? ⟨w.heap.size, 2, none⟩ = some (.int .i64 x.time) ∧ W.cell? ⟨w.heap.size, 3, none⟩ = some (.bool x.dir) ∧ W.cell? ⟨w.heap.size, 4, none⟩ = some (.string y.name) ∧ W.cell? ⟨w.heap.size, 5, none⟩ = some (.int .i64 y.size) ∧ W.cell? ⟨w.heap.size, 6, none⟩ = some (.int .i64 y.time) ∧ W.cell? ⟨w.heap.size, 7, none⟩ = some (.bool y.dir) ∧ W.cell? ⟨w.heap.size, 8, none⟩ = some (.string z.name) ∧ W.cell? ⟨w.heap.size, 9, none⟩ = some (.int .i64 z.size) ∧ W.cell? ⟨w.heap.size, 10, none⟩ = some (.int .i64 z.time) ∧ W.cell? ⟨w.heap.size, 11, none⟩ = some (.bool z.dir) from fun W hW => by
    have q := (hW.block _ (heap_lt HX0.out)).trans HX0.out
    refine ⟨?_, ?_, ?_, ?_, ?_, ?_, ?_, ?_, ?_, ?_, ?_, ?_⟩ <;> (rw [cell_of_row _ _ _ _ _ _ q]; rfl))
  have HFw := Lib.hid (fun W (hb : Below w0.heap.size w0 W) => kfew_any [x, y, z] (some ⟨w.heap.size, 0, none⟩) 3 3 W (keys3_is ((hb.block _ (heap_lt HX0.out)).trans HX0.out)) (by show 3 ≤ 9223372036854775807; decide) HZ.out)
  simp only [show [x, y, z].length = 3 from rfl] at HFw
  clear HX0
  go_wp2_with fail
  refine (HAw.out _ HB0.out).mono ?_
  rintro e w2 ⟨rfl, hb2⟩
  have HB2 := Lib.hid hb2
  clear hb2
  obtain ⟨c0, _⟩ := HCl.out _ HB2.out
  go_wp2_with fail
  refine (HFw.out _ HB2.out).mono ?_
  rintro e w3 ⟨b, rfl, hb, rfl⟩
  have HBb := Lib.hid hb
  clear hb
  cases b with
  | false =>
    go_wp2_with fail
    refine (HAw.out _ (below_two HB0.out HB2.out)).mono ?_
    rintro e w4 ⟨rfl, hb4⟩
    have HB4 := Lib.hid (below_two (below_two HB0.out HB2.out) hb4)
    clear hb4
    go_wp2_with fail
    go_ret
    exact ⟨rfl, HB4.out⟩
  | true =>
    obtain ⟨f1, f2⟩ := HBb.out.1 rfl
    have HBq := Lib.hid (below_two HB0.out HB2.out)
    have hn := few_names f1 (by show 3 ≤ 200; decide)
    have hnx := hn x (by simp)
    have hny := hn y (by simp)
    have hnz := hn z (by simp)
    have HCm := Lib.hid (fun (u v : Ky) (hu : u.name.size ≤ 60000) (hv : v.name.size ≤ 60000) W (hb : Below w.heap.size w W) => ocmp_any o u v W (HT.out.keep hb) hu hv)
    have HXY := Lib.hid (fun W (hb : Below w.heap.size w W) => ocmp_any o x y W (HT.out.keep hb) hnx hny)
    have HYZ := Lib.hid (fun W (hb : Below w.heap.size w W) => ocmp_any o y z W (HT.out.keep hb) hny hnz)
    have HXZ := Lib.hid (fun W (hb : Below w.heap.size w W) => ocmp_any o x z W (HT.out.keep hb) hnx hnz)
    have HYX := Lib.hid (fun W (hb : Below w.heap.size w W) => ocmp_any o y x W (HT.out.keep hb) hny hnx)
    have HXX := Lib.hid (fun W (hb : Below w.heap.size w W) => ocmp_any o x x W (HT.out.keep hb) hnx hnx)
    unfold kyV at HXY HYZ HXZ HYX HXX
    have hT := cmpK_tot o
    rw [hT.anti x y] at HYX
    rw [hT.self x] at HXX
    have HU := Lib.hid (hT.unit x y)
    have HV := Lib.hid (hT.unit y z)
    have HTr := Lib.hid (hT.trans x y z)
    clear hT HCm f1 f2 HBb hn
    generalize cmpK o x y = X at HXY HYX HU HTr
    generalize cmpK o y z = Y at HYZ HV HTr
    generalize cmpK o x z = Z at HXZ HTr
    go_upto_region 3 with fail
-- TILL 3
    refine Till.region (z := 1000) (S := fun w' => Below w3.heap.size w3 w') (by kernel_rfl) ((Below.refl _ _).drew) (fun hHeld => ?_)
    refine Till.takeA (i := 0) (oi := { dst := some 16, op := Op.move (Operand.tmp 0), type := 3, pos := "law.go:43", after := #[], guard := none }) (v := .int .i64 o) rfl (by kernel_rfl) (by kernel_rfl) (by kernel_rfl) (by rfl) (fun _ _ _ h => h) (Or.inl ⟨by rfl, fun w0 hS0 => ?_⟩) (by assumption) ?_
    · go_simp
    try simp only [Act.put, List.setIfInBounds_toArray, List.set_cons_zero, List.set_cons_succ]
    refine Till.takeA (i := 1) (oi := { dst := some 17, op := Op.indexAddr 36 (Operand.tmp 3) (Operand.const (Value.int IntKind.i64 0)), type := 0, pos := "law.go:43", after := #[], guard := none }) (v := .pointer (some ⟨w.heap.size, 0, none⟩)) rfl (by kernel_rfl) (by kernel_rfl) (by kernel_rfl) (by rfl) (fun _ _ _ h => h) (Or.inl ⟨by rfl, fun w0 hS0 => ?_⟩) (by assumption) ?_
    · go_simp
    try simp only [Act.put, List.setIfInBounds_toArray, List.set_cons_zero, List.set_cons_succ]
    refine Till.takeA (i := 2) (oi := { dst := some 18, op := Op.load 26 (Operand.tmp 17), type := 26, pos := "law.go:43", after := #[{ on := 1, ground := Ground.data }], guard := none }) (v := .agg #[.string x.name, .int .i64 x.size, .int .i64 x.time, .bool x.dir]) rfl (by kernel_rfl) (by kernel_rfl) (by kernel_rfl) (by rfl) (fun _ _ _ h => h) (Or.inl ⟨by rfl, fun w0 hS0 => ?_⟩) (by assumption) ?_
    · obtain ⟨r0, r1, r2, r3, r4, r5, r6, r7, r8, r9, r10, r11⟩ := HCl.out _ (below_two HB2.out hS0); go_simp
    try simp only [Act.put, List.setIfInBounds_toArray, List.set_cons_zero, List.set_cons_succ]
    refine Till.takeA (i := 3) (oi := { dst := some 19, op := Op.indexAddr 36 (Operand.tmp 3) (Operand.const (Value.int IntKind.i64 1)), type := 0, pos := "law.go:43", after := #[], guard := none }) (v := .pointer (some ⟨w.heap.size, 4, none⟩)) rfl (by kernel_rfl) (by kernel_rfl) (by kernel_rfl) (by rfl) (fun _ _ _ h => h) (Or.inl ⟨by rfl, fun w0 hS0 => ?_⟩) (by assumption) ?_
    · go_simp
    try simp only [Act.put, List.setIfInBounds_toArray, List.set_cons_zero, List.set_cons_succ]
    refine Till.takeA (i := 4) (oi := { dst := some 20, op := Op.load 26 (Operand.tmp 19), type := 26, pos := "law.go:43", after := #[{ on := 3, ground := Ground.data }], guard := none }) (v := .agg #[.string y.name, .int .i64 y.size, .int .i64 y.time, .bool y.dir]) rfl (by kernel_rfl) (by kernel_rfl) (by kernel_rfl) (by rfl) (fun _ _ _ h => h) (Or.inl ⟨by rfl, fun w0 hS0 => ?_⟩) (by assumption) ?_
    · obtain ⟨r0, r1, r2, r3, r4, r5, r6, r7, r8, r9, r10, r11⟩ := HCl.out _ (below_two HB2.out hS0); go_simp
    try simp only [Act.put, List.setIfInBounds_toArray, List.set_cons_zero, List.set_cons_succ]
    refine Till.takeA (i := 6) (oi := { dst := some 22, op := Op.move (Operand.tmp 0), type := 3, pos := "law.go:43", after := #[], guard := none }) (v := .int .i64 o) rfl (by kernel_rfl) (by kernel_rfl) (by kernel_rfl) (by rfl) (fun _ _ _ h => h) (Or.inl ⟨by rfl, fun w0 hS0 => ?_⟩) (by assumption) ?_
    · go_simp
    try simp only [Act.put, List.setIfInBounds_toArray, List.set_cons_zero, List.set_cons_succ]
    refine Till.takeA (i := 7) (oi := { dst := some 23, op := Op.indexAddr 36 (Operand.tmp 3) (Operand.const (Value.int IntKind.i64 1)), type := 0, pos := "law.go:43", after := #[], guard := none }) (v := .pointer (some ⟨w.heap.size, 4, none⟩)) rfl (by kernel_rfl) (by kernel_rfl) (by kernel_rfl) (by rfl) (fun _ _ _ h => h) (Or.inl ⟨by rfl, fun w0 hS0 => ?_⟩) (by assumption) ?_
    · go_simp
    try simp only [Act.put, List.setIfInBounds_toArray, List.set_cons_zero, List.set_cons_succ]
    refine Till.takeA (i := 8) (oi := { dst := some 24, op := Op.load 26 (Operand.tmp 23), type := 26, pos := "law.go:43", after := #[{ on := 7, ground := Ground.data }], guard := none }) (v := .agg #[.string y.name, .int .i64 y.size, .int .i64 y.time, .bool y.dir]) rfl (by kernel_rfl) (by kernel_rfl) (by kernel_rfl) (by rfl) (fun _ _ _ h => h) (Or.inl ⟨by rfl, fun w0 hS0 => ?_⟩) (by assumption) ?_
    · obtain ⟨r0, r1, r2, r3, r4, r5, r6, r7, r8, r9, r10, r11⟩ := HCl.out _ (below_two HB2.out hS0); go_simp
    try simp only [Act.put, List.setIfInBounds_toArray, List.set_cons_zero, List.set_cons_succ]
    refine Till.takeA (i := 9) (oi := { dst := some 25, op := Op.indexAddr 36 (Operand.tmp 3) (Operand.const (Value.int IntKind.i64 2)), type := 0, pos := "law.go:43", after := #[], guard := none }) (v := .pointer (some ⟨w.heap.size, 8, none⟩)) rfl (by kernel_rfl) (by kernel_rfl) (by kernel_rfl) (by rfl) (fun _ _ _ h => h) (Or.inl ⟨by rfl, fun w0 hS0 => ?_⟩) (by assumption) ?_
    · go_simp
    try simp only [Act.put, List.setIfInBounds_toArray, List.set_cons_zero, List.set_cons_succ]
    refine Till.takeA (i := 10) (oi := { dst := some 26, op := Op.load 26 (Operand.tmp 25), type := 26, pos := "law.go:43", after := #[{ on := 9, ground := Ground.data }], guard := none }) (v := .agg #[.string z.name, .int .i64 z.size, .int .i64 z.time, .bool z.dir]) rfl (by kernel_rfl) (by kernel_rfl) (by kernel_rfl) (by rfl) (fun _ _ _ h => h) (Or.inl ⟨by rfl, fun w0 hS0 => ?_⟩) (by assumption) ?_
    · obtain ⟨r0, r1, r2, r3, r4, r5, r6, r7, r8, r9, r10, r11⟩ := HCl.out _ (below_two HB2.out hS0); go_simp
    try simp only [Act.put, List.setIfInBounds_toArray, List.set_cons_zero, List.set_cons_succ]
    refine Till.takeA (i := 12) (oi := { dst := some 28, op := Op.move (Operand.tmp 0), type := 3, pos := "law.go:43", after := #[], guard := none }) (v := .int .i64 o) rfl (by kernel_rfl) (by kernel_rfl) (by kernel_rfl) (by rfl) (fun _ _ _ h => h) (Or.inl ⟨by rfl, fun w0 hS0 => ?_⟩) (by assumption) ?_
    · go_simp
    try simp only [Act.put, List.setIfInBounds_toArray, List.set_cons_zero, List.set_cons_succ]
    refine Till.takeA (i := 13) (oi := { dst := some 29, op := Op.indexAddr 36 (Operand.tmp 3) (Operand.const (Value.int IntKind.i64 0)), type := 0, pos := "law.go:43", after := #[], guard := none }) (v := .pointer (some ⟨w.heap.size, 0, none⟩)) rfl (by kernel_rfl) (by kernel_rfl) (by kernel_rfl) (by rfl) (fun _ _ _ h => h) (Or.inl ⟨by rfl, fun w0 hS0 => ?_⟩) (by assumption) ?_
    · go_simp
    try simp only [Act.put, List.setIfInBounds_toArray, List.set_cons_zero, List.set_cons_succ]
    refine Till.takeA (i := 14) (oi := { dst := some 30, op := Op.load 26 (Operand.tmp 29), type := 26, pos := "law.go:43", after := #[{ on := 13, ground := Ground.data }], guard := none }) (v := .agg #[.string x.name, .int .i64 x.size, .int .i64 x.time, .bool x.dir]) rfl (by kernel_rfl) (by kernel_rfl) (by kernel_rfl) (by rfl) (fun _ _ _ h => h) (Or.inl ⟨by rfl, fun w0 hS0 => ?_⟩) (by assumption) ?_
    · obtain ⟨r0, r1, r2, r3, r4, r5, r6, r7, r8, r9, r10, r11⟩ := HCl.out _ (below_two HB2.out hS0); go_simp
    try simp only [Act.put, List.setIfInBounds_toArray, List.set_cons_zero, List.set_cons_succ]
    refine Till.takeA (i := 15) (oi := { dst := some 31, op := Op.indexAddr 36 (Operand.tmp 3) (Operand.const (Value.int IntKind.i64 2)), type := 0, pos := "law.go:43", after := #[], guard := none }) (v := .pointer (some ⟨w.heap.size, 8, none⟩)) rfl (by kernel_rfl) (by kernel_rfl) (by kernel_rfl) (by rfl) (fun _ _ _ h => h) (Or.inl ⟨by rfl, fun w0 hS0 => ?_⟩) (by assumption) ?_
    · go_simp
    try simp only [Act.put, List.setIfInBounds_toArray, List.set_cons_zero, List.set_cons_succ]
    refine Till.takeA (i := 16) (oi := { dst := some 32, op := Op.load 26 (Operand.tmp 31), type := 26, pos := "law.go:43", after := #[{ on := 15, ground := Ground.data }], guard := none }) (v := .agg #[.string z.name, .int .i64 z.size, .int .i64 z.time, .bool z.dir]) rfl (by kernel_rfl) (by kernel_rfl) (by kernel_rfl) (by rfl) (fun _ _ _ h => h) (Or.inl ⟨by rfl, fun w0 hS0 => ?_⟩) (by assumption) ?_
    · obtain ⟨r0, r1, r2, r3, r4, r5, r6, r7, r8, r9, r10, r11⟩ := HCl.out _ (below_two HB2.out hS0); go_simp
    try simp only [Act.put, List.setIfInBounds_toArray, List.set_cons_zero, List.set_cons_succ]
    refine Till.next (i := 5) (o := { dst := some 21, op := Op.call { callee := Callee.value (Operand.func 11), args := #[Operand.tmp 16, Operand.tmp 18, Operand.tmp 20], argTypes := #[3, 26, 26] }, type := 3, pos := "law.go:43", after := #[{ on := 0, ground := Ground.data }, { on := 2, ground := Ground.data }, { on := 4, ground := Ground.data }], guard := none }) (by kernel_rfl) rfl (fun K hK => ?_)
    go_simp
    refine (HXY.out _ (below_two HBq.out hHeld)).mono ?_
    rintro e w4 ⟨rfl, hb⟩
    have hHeld4 : Below w3.heap.size w3 w4 := below_two hHeld hb
    clear hb
    go_wp2_with fail
    refine hK.out _ _ (fun _ => hHeld4) ?_
    clear hK K
    try simp only [Act.put, List.setIfInBounds_toArray, List.set_cons_zero, List.set_cons_succ]
    refine Till.next (i := 11) (o := { dst := some 27, op := Op.call { callee := Callee.value (Operand.func 11), args := #[Operand.tmp 22, Operand.tmp 24, Operand.tmp 26], argTypes := #[3, 26, 26] }, type := 3, pos := "law.go:43", after := #[{ on := 6, ground := Ground.data }, { on := 8, ground := Ground.data }, { on := 10, ground := Ground.data }, { on := 5, ground := Ground.chain }], guard := none }) (by kernel_rfl) rfl (fun K hK => ?_)
    go_simp
    refine (HYZ.out _ (below_two HBq.out hHeld4)).mono ?_
    rintro e w5 ⟨rfl, hb⟩
    have hHeld5 : Below w3.heap.size w3 w5 := below_two hHeld4 hb
    clear hb
    go_wp2_with fail
    refine hK.out _ _ (fun _ => hHeld5) ?_
    clear hK K
    try simp only [Act.put, List.setIfInBounds_toArray, List.set_cons_zero, List.set_cons_succ]
    refine Till.next (i := 17) (o := { dst := some 33, op := Op.call { callee := Callee.value (Operand.func 11), args := #[Operand.tmp 28, Operand.tmp 30, Operand.tmp 32], argTypes := #[3, 26, 26] }, type := 3, pos := "law.go:43", after := #[{ on := 12, ground := Ground.data }, { on := 14, ground := Ground.data }, { on := 16, ground := Ground.data }, { on := 11, ground := Ground.chain }], guard := none }) (by kernel_rfl) rfl (fun K hK => ?_)
    go_simp
    refine (HXZ.out _ (below_two HBq.out hHeld5)).mono ?_
    rintro e w6 ⟨rfl, hb⟩
    have hHeld6 : Below w3.heap.size w3 w6 := below_two hHeld5 hb
    clear hb
    go_wp2_with fail
    refine hK.out _ _ (fun _ => hHeld6) ?_
    clear hK K
    try simp only [Act.put, List.setIfInBounds_toArray, List.set_cons_zero, List.set_cons_succ]
    refine Till.takeA (i := 18) (oi := { dst := some 5, op := Op.assign (Operand.tmp 21), type := 3, pos := "law.go:43", after := #[{ on := 5, ground := Ground.data }, { on := 17, ground := Ground.chain }, { on := 0, ground := Ground.phase }, { on := 1, ground := Ground.phase }, { on := 2, ground := Ground.phase }, { on := 3, ground := Ground.phase }, { on := 4, ground := Ground.phase }, { on := 5, ground := Ground.phase }, { on := 6, ground := Ground.textOnly Departure.lateStores }, { on := 7, ground := Ground.textOnly Departure.lateStores }, { on := 8, ground := Ground.textOnly Departure.lateStores }, { on := 9, ground := Ground.textOnly Departure.lateStores }, { on := 10, ground := Ground.textOnly Departure.lateStores }, { on := 11, ground := Ground.textOnly Departure.lateStoresUnsure }, { on := 12, ground := Ground.textOnly Departure.lateStores }, { on := 13, ground := Ground.textOnly Departure.lateStores }, { on := 14, ground := Ground.textOnly Departure.lateStores }, { on := 15, ground := Ground.textOnly Departure.lateStores }, { on := 16, ground := Ground.textOnly Departure.lateStores }, { on := 17, ground := Ground.textOnly Departure.lateStoresUnsure }], guard := none }) (v := .int .i64 X) rfl (by kernel_rfl) (by kernel_rfl) (by kernel_rfl) (by rfl) (fun _ _ _ h => h) (Or.inl ⟨by rfl, fun w0 hS0 => ?_⟩) (by assumption) ?_
    · go_simp
    try simp only [Act.put, List.setIfInBounds_toArray, List.set_cons_zero, List.set_cons_succ]
    refine Till.takeA (i := 19) (oi := { dst := some 6, op := Op.assign (Operand.tmp 27), type := 3, pos := "law.go:43", after := #[{ on := 11, ground := Ground.data }, { on := 18, ground := Ground.chain }, { on := 0, ground := Ground.phase }, { on := 1, ground := Ground.phase }, { on := 2, ground := Ground.phase }, { on := 3, ground := Ground.phase }, { on := 4, ground := Ground.phase }, { on := 5, ground := Ground.phase }, { on := 6, ground := Ground.phase }, { on := 7, ground := Ground.phase }, { on := 8, ground := Ground.phase }, { on := 9, ground := Ground.phase }, { on := 10, ground := Ground.phase }, { on := 11, ground := Ground.phase }, { on := 12, ground := Ground.textOnly Departure.lateStores }, { on := 13, ground := Ground.textOnly Departure.lateStores }, { on := 14, ground := Ground.textOnly Departure.lateStores }, { on := 15, ground := Ground.textOnly Departure.lateStores }, { on := 16, ground := Ground.textOnly Departure.lateStores }, { on := 17, ground := Ground.textOnly Departure.lateStoresUnsure }, { on := 18, ground := Ground.phase }], guard := none }) (v := .int .i64 Y) rfl (by kernel_rfl) (by kernel_rfl) (by kernel_rfl) (by rfl) (fun _ _ _ h => h) (Or.inl ⟨by rfl, fun w0 hS0 => ?_⟩) (by assumption) ?_
    · go_simp
    try simp only [Act.put, List.setIfInBounds_toArray, List.set_cons_zero, List.set_cons_succ]
    refine Till.takeA (i := 20) (oi := { dst := some 7, op := Op.assign (Operand.tmp 33), type := 3, pos := "law.go:43", after := #[{ on := 17, ground := Ground.data }, { on := 19, ground := Ground.chain }, { on := 0, ground := Ground.phase }, { on := 1, ground := Ground.phase }, { on := 2, ground := Ground.phase }, { on := 3, ground := Ground.phase }, { on := 4, ground := Ground.phase }, { on := 5, ground := Ground.phase }, { on := 6, ground := Ground.phase }, { on := 7, ground := Ground.phase }, { on := 8, ground := Ground.phase }, { on := 9, ground := Ground.phase }, { on := 10, ground := Ground.phase }, { on := 11, ground := Ground.phase }, { on := 12, ground := Ground.phase }, { on := 13, ground := Ground.phase }, { on := 14, ground := Ground.phase }, { on := 15, ground := Ground.phase }, { on := 16, ground := Ground.phase }, { on := 17, ground := Ground.phase }, { on := 18, ground := Ground.phase }, { on := 19, ground := Ground.phase }], guard := none }) (v := .int .i64 Z) rfl (by kernel_rfl) (by kernel_rfl) (by kernel_rfl) (by rfl) (fun _ _ _ h => h) (Or.inl ⟨by rfl, fun w0 hS0 => ?_⟩) (by assumption) ?_
    · go_simp
    try simp only [Act.put, List.setIfInBounds_toArray, List.set_cons_zero, List.set_cons_succ]
    refine Till.done (by kernel_rfl) ?_
-- TILL 3 END
    have HB6 := Lib.hid hHeld6
    clear hHeld hHeld4 hHeld5 hHeld6
    obtain ⟨r0, r1, r2, r3, r4, r5, r6, r7, r8, r9, r10, r11⟩ := HCl.out _ (below_two HB2.out HB6.out)
    go_upto_region 4 with fail
    rcases HU.out with rfl | rfl | rfl
    · go_wp2_with fail
      refine (HYX.out _ (below_two HBq.out HB6.out)).mono ?_
      rintro e w7 ⟨rfl, hb⟩
      have HB7 := Lib.hid (below_two HB6.out hb)
      clear hb r0 r1 r2 r3
      obtain ⟨r0, r1, r2, r3, _⟩ := HCl.out _ (below_two HB2.out HB7.out)
      go_wp2_with fail
      refine (HXX.out _ (below_two HBq.out HB7.out)).mono ?_
      rintro e w8 ⟨rfl, hb⟩
      have HB8 := Lib.hid (below_two HBq.out (below_two HB7.out hb))
      clear hb
      rcases HV.out with rfl | rfl | rfl
      · have hz0 : Z ≤ 0 := HTr.out (by decide) (by decide)
        have d3 : decide (Z ≤ 0) = true := decide_eq_true hz0
        go_wp2_with fail
        go_ret
        exact ⟨rfl, HB8.out⟩
      · have hz0 : Z ≤ 0 := HTr.out (by decide) (by decide)
        have d3 : decide (Z ≤ 0) = true := decide_eq_true hz0
        go_wp2_with fail
        go_ret
        exact ⟨rfl, HB8.out⟩
      · go_wp2_with fail
        go_ret
        exact ⟨rfl, HB8.out⟩
    · go_wp2_with fail
      refine (HYX.out _ (below_two HBq.out HB6.out)).mono ?_
      rintro e w7 ⟨rfl, hb⟩
      have HB7 := Lib.hid (below_two HB6.out hb)
      clear hb r0 r1 r2 r3
      obtain ⟨r0, r1, r2, r3, _⟩ := HCl.out _ (below_two HB2.out HB7.out)
      go_wp2_with fail
      refine (HXX.out _ (below_two HBq.out HB7.out)).mono ?_
      rintro e w8 ⟨rfl, hb⟩
      have HB8 := Lib.hid (below_two HBq.out (below_two HB7.out hb))
      clear hb
      rcases HV.out with rfl | rfl | rfl
      · have hz0 : Z ≤ 0 := HTr.out (by decide) (by decide)
        have d3 : decide (Z ≤ 0) = true := decide_eq_true hz0
        go_wp2_with fail
        go_ret
        exact ⟨rfl, HB8.out⟩
      · have hz0 : Z ≤ 0 := HTr.out (by decide) (by decide)
        have d3 : decide (Z ≤ 0) = true := decide_eq_true hz0
        go_wp2_with fail
        go_ret
        exact ⟨rfl, HB8.out⟩
      · go_wp2_with fail
        go_ret
        exact ⟨rfl, HB8.out⟩
    · go_wp2_with fail
      refine (HYX.out _ (below_two HBq.out HB6.out)).mono ?_
      rintro e w7 ⟨rfl, hb⟩
      have HB7 := Lib.hid (below_two HB6.out hb)
      clear hb r0 r1 r2 r3
      obtain ⟨r0, r1, r2, r3, _⟩ := HCl.out _ (below_two HB2.out HB7.out)
      go_wp2_with fail
      refine (HXX.out _ (below_two HBq.out HB7.out)).mono ?_
      rintro e w8 ⟨rfl, hb⟩
      have HB8 := Lib.hid (below_two HBq.out (below_two HB7.out hb))
      clear hb
      go_wp2_with fail
      go_ret
      exact ⟨rfl, HB8.out⟩
end Go.Proofs.YteeddednonmglaaDoor
