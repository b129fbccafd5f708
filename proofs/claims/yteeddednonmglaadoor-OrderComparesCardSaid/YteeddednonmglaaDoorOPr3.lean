/-
  What the program's Compare and isAhead return. Conditions: names of at most 60000 bytes.
-/
import Derived.Test.YteeddednonmglaaDoorOPr2
import Derived.Test.YteeddednonmglaaDoorOAhead
import Derived.Test.YteeddednonmglaaDoorOTill
set_option linter.unusedVariables false
namespace Go.Proofs.YteeddednonmglaaDoor
open Go.RowKit

def KyAt (W : World) (g : Nat) (k : Ky) : Prop := W.cell? ⟨g, 0, none⟩ = some (.string k.name) ∧ W.cell? ⟨g, 1, none⟩ = some (.int .i64 k.size) ∧ W.cell? ⟨g, 2, none⟩ = some (.int .i64 k.time) ∧ W.cell? ⟨g, 3, none⟩ = some (.bool k.dir)
theorem ky_at {w2 : World} {g : Nat} {k : Ky} (h : w2.heap[g]? = some (.cells #[.string k.name, .int .i64 k.size, .int .i64 k.time, .bool k.dir] 26 (0, 0))) : ∀ W, Below w2.heap.size w2 W → KyAt W g k := fun W hW => by
  have q := (hW.block _ (heap_lt h)).trans h
  refine ⟨?_, ?_, ?_, ?_⟩ <;> (rw [cell_of_row _ _ _ _ _ _ q]; rfl)

set_option maxRecDepth 100000 in
set_option maxHeartbeats 8000000 in
theorem palone_any (o : Int) (a b : Ky) (w : World) (ha : a.name.size ≤ 60000) (hb : b.name.size ≤ 60000) :
    Calls Tryd.prog 22 #[.int .i64 o, kyV a, kyV b] w fun e w' => e = .returned (.int .i64 (ordC o a b)) ∧ Below w.heap.size w w' := by
  have HLe := Lib.hid (fun W => scmp_any (mkB (extL a.name.data.toList)) (mkB (extL b.name.data.toList)) W)
  have HVe := Lib.hid (fun W => over_any' a.name b.name W ha hb)
  have HN1 := Lib.hid (fun W => cint64_any b.size a.size W)
  have HN2 := Lib.hid (fun W => cint64_any b.time a.time W)
  simp only [mkB_list] at HLe
  have HO := Lib.hid (show ordC o a b = if o = 1 then cmpI b.size a.size else if o = 2 then cmpI b.time a.time else if o = 3 then lessL (extL a.name.data.toList) (extL b.name.data.toList) else if o = 4 then verL a.name.data.toList b.name.data.toList else 0 from rfl)
  generalize ordC o a b = C at HO ⊢
  unfold kyV
  go_enter Tryd.func22, Tryd.ntmps22
  go_upto_region 1 with fail
  obtain ⟨X1, X2, XB⟩ := two_boxes' w #[.string a.name, .int .i64 a.size, .int .i64 a.time, .bool a.dir] #[.string b.name, .int .i64 b.size, .int .i64 b.time, .bool b.dir] 26
  have HKa := Lib.hid (ky_at X1)
  have HKb := Lib.hid (ky_at X2)
  have HB := Lib.hid XB
  have HSz := Lib.hid XB.size
  clear X1 X2 XB
  generalize (w.alloc (.cells #[.string a.name, .int .i64 a.size, .int .i64 a.time, .bool a.dir] 26)).alloc (.cells #[.string b.name, .int .i64 b.size, .int .i64 b.time, .bool b.dir] 26) = w2 at HKa HKb HB HSz ⊢
  obtain ⟨gA, hgA⟩ : ∃ g, w.heap.size = g := ⟨_, rfl⟩
  have HgA := Lib.hid hgA
  rw [hgA] at HKa HKb HB HSz ⊢
  clear hgA
  generalize gA + 1 = gB at HKb ⊢
  obtain ⟨a0, a1, a2, a3⟩ := HKa.out w2 (Below.refl _ _)
  obtain ⟨b0, b1, b2, b3⟩ := HKb.out w2 (Below.refl _ _)
  by_cases o1 : o = 1
  · rw [if_pos o1] at HO
    have d1 : (o == 1) = true := beq_iff_eq.2 o1
    clear o1
    go_wp2_with (go_at_call 32; refine (HN1.out _).mono ?_; rintro e w3 ⟨rfl, hw⟩; subst hw)
    go_ret
    exact ⟨ret_int HO.out.symm, by rw [HgA.out]; exact HB.out⟩
  · rw [if_neg o1] at HO
    have d1 : (o == 1) = false := beq_eq_false_iff_ne.2 o1
    clear o1
    by_cases o2 : o = 2
    · rw [if_pos o2] at HO
      have d2 : (o == 2) = true := beq_iff_eq.2 o2
      clear o2
      go_wp2_with (go_at_call 32; refine (HN2.out _).mono ?_; rintro e w3 ⟨rfl, hw⟩; subst hw)
      go_ret
      exact ⟨ret_int HO.out.symm, by rw [HgA.out]; exact HB.out⟩
    · rw [if_neg o2] at HO
      have d2 : (o == 2) = false := beq_eq_false_iff_ne.2 o2
      clear o2
      by_cases o3 : o = 3
      · rw [if_pos o3] at HO
        have d3 : (o == 3) = true := beq_iff_eq.2 o3
        clear o3
        have aq : ∀ n, (w2.drewN n).cell? ⟨gA, 0, none⟩ = some (.string a.name) := fun n => (HKa.out _ (below_drewN' (Below.refl _ _))).1
        have bq : ∀ n, (w2.drewN n).cell? ⟨gB, 0, none⟩ = some (.string b.name) := fun n => (HKb.out _ (below_drewN' (Below.refl _ _))).1
        go_upto_region 7 with fail
        go_quiet (first
          | (go_at_call 23; refine Calls.quiet_of_same (HLe.out _))
          | (go_at_call 13; refine Calls.quiet_of_same (pext_any _ _ (by first | exact ha | exact hb))))
        have HBd := Lib.hid (show Below gA w (w2.drewN nq) from below_drewN' HB.out)
        generalize w2.drewN nq = w3 at HBd ⊢
        go_wp2
        go_ret
        exact ⟨ret_int HO.out.symm, by rw [HgA.out]; exact HBd.out⟩
      · rw [if_neg o3] at HO
        have d3 : (o == 3) = false := beq_eq_false_iff_ne.2 o3
        clear o3
        by_cases o4 : o = 4
        · rw [if_pos o4] at HO
          have d4 : (o == 4) = true := beq_iff_eq.2 o4
          clear o4
          go_wp2_with (go_at_call 15; refine (HVe.out _).mono ?_; rintro e w3 ⟨rfl, hb⟩; have HB3 := Lib.hid (HB.out.trans (hb.mono HSz.out)); clear hb)
          go_ret
          exact ⟨ret_int HO.out.symm, by rw [HgA.out]; exact HB3.out⟩
        · rw [if_neg o4] at HO
          have d4 : (o == 4) = false := beq_eq_false_iff_ne.2 o4
          clear o4
          go_wp2_with fail
          go_ret
          exact ⟨ret_int HO.out.symm, by rw [HgA.out]; exact HB.out⟩

set_option maxRecDepth 100000 in
set_option maxHeartbeats 8000000 in
theorem pcompare_any (o : Int) (a b : Ky) (w : World) (ha : a.name.size ≤ 60000) (hb : b.name.size ≤ 60000) :
    Calls Tryd.prog 11 #[.int .i64 o, kyV a, kyV b] w fun e w' => e = .returned (.int .i64 (cmpK o a b)) ∧ Below w.heap.size w w' := by
  have HA := Lib.hid (fun W => palone_any o a b W ha hb)
  have HS := Lib.hid (fun W => scmp_any a.name b.name W)
  have HC := Lib.hid (show cmpK o a b = if ordC o a b = 0 then nameC a b else ordC o a b from rfl)
  have HNm := Lib.hid (show nameC a b = lessL a.name.data.toList b.name.data.toList from rfl)
  rw [HNm.out] at HC
  clear HNm
  generalize ordC o a b = C at HC HA
  generalize cmpK o a b = R at HC ⊢
  generalize lessL a.name.data.toList b.name.data.toList = L at HC HS
  unfold kyV at HA ⊢
  go_enter Tryd.func11, Tryd.ntmps11
  go_upto_region 1 with fail
  obtain ⟨X1, X2, XB⟩ := two_boxes' w #[.string a.name, .int .i64 a.size, .int .i64 a.time, .bool a.dir] #[.string b.name, .int .i64 b.size, .int .i64 b.time, .bool b.dir] 26
  have HKa := Lib.hid (ky_at X1)
  have HKb := Lib.hid (ky_at X2)
  have HB := Lib.hid XB
  have HSz := Lib.hid XB.size
  clear X1 X2 XB
  generalize (w.alloc (.cells #[.string a.name, .int .i64 a.size, .int .i64 a.time, .bool a.dir] 26)).alloc (.cells #[.string b.name, .int .i64 b.size, .int .i64 b.time, .bool b.dir] 26) = w2 at HKa HKb HB HSz ⊢
  obtain ⟨gA, hgA⟩ : ∃ g, w.heap.size = g := ⟨_, rfl⟩
  have HgA := Lib.hid hgA
  rw [hgA] at HKa HKb HB HSz ⊢
  clear hgA
  generalize gA + 1 = gB at HKb ⊢
-- TILL 1
  refine Till.region (z := 1000) (S := fun w' => Below w2.heap.size w2 w') (by kernel_rfl) ((Below.refl _ _).drew) (fun hHeld => ?_)
  refine Till.takeA (i := 0) (oi := { dst := some 7, op := Op.move (Operand.tmp 0), type := 3, pos := "order.go:29", after := #[], guard := none }) (v := .int .i64 o) rfl (by kernel_rfl) (by kernel_rfl) (by kernel_rfl) (by rfl) (fun _ _ _ h => h) (Or.inl ⟨by rfl, fun w0 hS0 => ?_⟩) (by assumption) ?_
  · go_simp
  try simp only [Act.put, List.setIfInBounds_toArray, List.set_cons_zero, List.set_cons_succ]
  refine Till.takeA (i := 1) (oi := { dst := some 8, op := Op.load 26 (Operand.tmp 4), type := 26, pos := "order.go:29", after := #[], guard := none }) (v := .agg #[.string a.name, .int .i64 a.size, .int .i64 a.time, .bool a.dir]) rfl (by kernel_rfl) (by kernel_rfl) (by kernel_rfl) (by rfl) (fun _ _ _ h => h) (Or.inl ⟨by rfl, fun w0 hS0 => ?_⟩) (by assumption) ?_
  · obtain ⟨r0, r1, r2, r3⟩ := HKa.out _ hS0; go_simp
  try simp only [Act.put, List.setIfInBounds_toArray, List.set_cons_zero, List.set_cons_succ]
  refine Till.takeA (i := 2) (oi := { dst := some 9, op := Op.load 26 (Operand.tmp 5), type := 26, pos := "order.go:29", after := #[], guard := none }) (v := .agg #[.string b.name, .int .i64 b.size, .int .i64 b.time, .bool b.dir]) rfl (by kernel_rfl) (by kernel_rfl) (by kernel_rfl) (by rfl) (fun _ _ _ h => h) (Or.inl ⟨by rfl, fun w0 hS0 => ?_⟩) (by assumption) ?_
  · obtain ⟨r0, r1, r2, r3⟩ := HKb.out _ hS0; go_simp
  try simp only [Act.put, List.setIfInBounds_toArray, List.set_cons_zero, List.set_cons_succ]
  refine Till.takeA (i := 4) (oi := { dst := some 11, op := Op.fieldAddr 26 (Operand.tmp 4) 0, type := 0, pos := "order.go:29", after := #[], guard := none }) (v := .pointer (some ⟨gA, 0, none⟩)) rfl (by kernel_rfl) (by kernel_rfl) (by kernel_rfl) (by rfl) (fun _ _ _ h => h) (Or.inl ⟨by rfl, fun w0 hS0 => ?_⟩) (by assumption) ?_
  · go_simp
  try simp only [Act.put, List.setIfInBounds_toArray, List.set_cons_zero, List.set_cons_succ]
  refine Till.takeA (i := 5) (oi := { dst := some 12, op := Op.load 9 (Operand.tmp 11), type := 9, pos := "order.go:29", after := #[{ on := 4, ground := Ground.data }], guard := none }) (v := .string a.name) rfl (by kernel_rfl) (by kernel_rfl) (by kernel_rfl) (by rfl) (fun _ _ _ h => h) (Or.inl ⟨by rfl, fun w0 hS0 => ?_⟩) (by assumption) ?_
  · obtain ⟨r0, r1, r2, r3⟩ := HKa.out _ hS0; go_simp
  try simp only [Act.put, List.setIfInBounds_toArray, List.set_cons_zero, List.set_cons_succ]
  refine Till.takeA (i := 6) (oi := { dst := some 13, op := Op.fieldAddr 26 (Operand.tmp 5) 0, type := 0, pos := "order.go:29", after := #[], guard := none }) (v := .pointer (some ⟨gB, 0, none⟩)) rfl (by kernel_rfl) (by kernel_rfl) (by kernel_rfl) (by rfl) (fun _ _ _ h => h) (Or.inl ⟨by rfl, fun w0 hS0 => ?_⟩) (by assumption) ?_
  · go_simp
  try simp only [Act.put, List.setIfInBounds_toArray, List.set_cons_zero, List.set_cons_succ]
  refine Till.takeA (i := 7) (oi := { dst := some 14, op := Op.load 9 (Operand.tmp 13), type := 9, pos := "order.go:29", after := #[{ on := 6, ground := Ground.data }], guard := none }) (v := .string b.name) rfl (by kernel_rfl) (by kernel_rfl) (by kernel_rfl) (by rfl) (fun _ _ _ h => h) (Or.inl ⟨by rfl, fun w0 hS0 => ?_⟩) (by assumption) ?_
  · obtain ⟨r0, r1, r2, r3⟩ := HKb.out _ hS0; go_simp
  try simp only [Act.put, List.setIfInBounds_toArray, List.set_cons_zero, List.set_cons_succ]
  refine Till.next (i := 3) (o := { dst := some 10, op := Op.call { callee := Callee.value (Operand.func 22), args := #[Operand.tmp 7, Operand.tmp 8, Operand.tmp 9], argTypes := #[3, 26, 26] }, type := 3, pos := "order.go:29", after := #[{ on := 0, ground := Ground.data }, { on := 1, ground := Ground.data }, { on := 2, ground := Ground.data }], guard := none }) (by kernel_rfl) rfl (fun K hK => ?_)
  go_simp
  refine (HA.out _).mono ?_
  rintro e w3 ⟨rfl, hb3⟩
  have hHeld3 : Below w2.heap.size w2 w3 := below_two hHeld hb3
  clear hb3
  go_wp2_with fail
  refine hK.out _ _ (fun _ => hHeld3) ?_
  clear hK K
  try simp only [Act.put, List.setIfInBounds_toArray, List.set_cons_zero, List.set_cons_succ]
  refine Till.next (i := 8) (o := { dst := some 15, op := Op.call { callee := Callee.value (Operand.func 23), args := #[Operand.tmp 12, Operand.tmp 14], argTypes := #[9, 9] }, type := 3, pos := "order.go:29", after := #[{ on := 5, ground := Ground.data }, { on := 7, ground := Ground.data }, { on := 3, ground := Ground.chain }], guard := none }) (by kernel_rfl) rfl (fun K hK => ?_)
  go_simp
  refine (HS.out _).mono ?_
  rintro e w4 ⟨rfl, hw⟩
  subst hw
  go_wp2_with fail
  refine hK.out _ _ (fun _ => hHeld3) ?_
  clear hK K
  try simp only [Act.put, List.setIfInBounds_toArray, List.set_cons_zero, List.set_cons_succ]
  refine Till.next (i := 9) (o := { dst := some 16, op := Op.buildSlice 27 2 #[(0, Operand.tmp 10), (1, Operand.tmp 15)], type := 27, pos := "order.go:29", after := #[{ on := 3, ground := Ground.data }, { on := 8, ground := Ground.data }], guard := none }) (by kernel_rfl) rfl (fun K hK => ?_)
  go_simp
  refine hK.out _ _ (fun _ => hHeld3.alloc hHeld3.size _) ?_
  clear hK K
  try simp only [Act.put, List.setIfInBounds_toArray, List.set_cons_zero, List.set_cons_succ]
  refine Till.next (i := 10) (o := { dst := some 17, op := Op.call { callee := Callee.value (Operand.func 21), args := #[Operand.tmp 16], argTypes := #[27] }, type := 3, pos := "order.go:29", after := #[{ on := 9, ground := Ground.data }, { on := 8, ground := Ground.chain }], guard := none }) (by kernel_rfl) rfl (fun K hK => ?_)
  go_simp
  refine (cor2_any C L R _ HC.out).mono ?_
  rintro e w5 ⟨rfl, hb5⟩
  have hHeld5 : Below w2.heap.size w2 w5 := below_two hHeld3 hb5
  clear hb5
  go_wp2_with fail
  refine hK.out _ _ (fun _ => hHeld5) ?_
  clear hK K
  try simp only [Act.put, List.setIfInBounds_toArray, List.set_cons_zero, List.set_cons_succ]
  refine Till.takeA (i := 11) (oi := { dst := some 6, op := Op.assign (Operand.tmp 17), type := 3, pos := "order.go:29", after := #[{ on := 10, ground := Ground.data }, { on := 10, ground := Ground.chain }, { on := 0, ground := Ground.phase }, { on := 1, ground := Ground.phase }, { on := 2, ground := Ground.phase }, { on := 3, ground := Ground.phase }, { on := 4, ground := Ground.phase }, { on := 5, ground := Ground.phase }, { on := 6, ground := Ground.phase }, { on := 7, ground := Ground.phase }, { on := 8, ground := Ground.phase }, { on := 9, ground := Ground.phase }, { on := 10, ground := Ground.phase }], guard := none }) (v := .int .i64 R) rfl (by kernel_rfl) (by kernel_rfl) (by kernel_rfl) (by rfl) (fun _ _ _ h => h) (Or.inl ⟨by rfl, fun w0 hS0 => ?_⟩) (by assumption) ?_
  · go_simp
  try simp only [Act.put, List.setIfInBounds_toArray, List.set_cons_zero, List.set_cons_succ]
  refine Till.done (by kernel_rfl) ?_
-- TILL 1 END
  go_wp2
  go_ret
  exact ⟨rfl, by rw [HgA.out]; exact HB.out.trans (hHeld5.mono HSz.out)⟩
end Go.Proofs.YteeddednonmglaaDoor
