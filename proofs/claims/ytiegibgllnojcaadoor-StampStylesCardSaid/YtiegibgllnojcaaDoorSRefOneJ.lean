/-
  What the reference's One writes of j. Conditions: the date's numbers are within their bounds.
-/
import Derived.Test.YtiegibgllnojcaaDoorSRefOne
import Derived.IntWalk
set_option linter.unusedVariables false
namespace Go.Proofs.YtiegibgllnojcaaDoor
open Go.RowKit

theorem hundred_parts (n : Int) (h0 : 0 ≤ n) (h1 : n < 1000) : ∃ (A R : Int) (x : UInt8), Int.tdiv n 100 = A ∧ Int.tmod n 100 = R ∧ 0 ≤ A ∧ A ≤ 9 ∧ 0 ≤ R ∧ R < 100 ∧ 48 + A = (x.toNat : Int) ∧ Hid (x :: twoL R.toNat = threeL n.toNat) := by
  have e1 : Int.tdiv n 100 = n / 100 := Int.tdiv_eq_ediv_of_nonneg h0
  have e2 : Int.tmod n 100 = n % 100 := Int.tmod_eq_emod_of_nonneg h0
  refine ⟨_, _, UInt8.ofNat (48 + n.toNat / 100), e1, e2, by omega, by omega, by omega, by omega, ?_, Lib.hid ?_⟩
  · simp only [UInt8.toNat_ofNat']
    omega
  · unfold threeL
    rw [show (n % 100).toNat = n.toNat % 100 by omega]
theorem wrap_u8 {n : Int} (h0 : 0 ≤ n) (h1 : n ≤ 255) : IntKind.u8.wrap n = n := by
  have e : IntKind.u8.wrap n = n % 256 := rfl
  rw [e]
  omega
/-- The world behind a new slice of one byte. -/
def Aft (w w4 : World) (x : Int) : Prop := Below (w.alloc (.cells #[.int .u8 x] 5)).heap.size (w.alloc (.cells #[.int .u8 x] 5)) w4
theorem conv_aft (x : UInt8) (n : Int) (hn : n = (x.toNat : Int)) (w w4 : World) (h : Aft w w4 n) : (convert 44 9 (.slice (some ⟨w.heap.size, 0, none⟩) 1 1)).run Tryd.prog w4 = .ok (.string (txt [x])) w4 := by
  subst hn
  refine run_convert_bytes_back _ 44 9 5 ⟨w.heap.size, 0, none⟩ 1 [x] Tryd.underlying44 Tryd.underlying5 Tryd.underlying9 ?_
  intro j hj
  match j, hj with
  | 0, _ =>
    have e : w4.cell? ⟨w.heap.size, 0, none⟩ = some (.int .u8 (x.toNat : Int)) := by
      rw [h.cell (p := ⟨w.heap.size, 0, none⟩) (by simp)]
      simp [go_sem]
    simpa [Addr.add] using e

theorem Aft.now (w : World) (x : Int) : Aft w (w.alloc (.cells #[.int .u8 x] 5)) x := Below.refl _ _
theorem Aft.drew (w : World) (x : Int) : Aft w (w.alloc (.cells #[.int .u8 x] 5)).drew x := ⟨rfl, rfl, rfl, Nat.le_refl _, fun _ _ => rfl⟩
theorem Aft.two {w w4 : World} {x : Int} (h : Below (w.alloc (.cells #[.int .u8 x] 5)).drew.heap.size (w.alloc (.cells #[.int .u8 x] 5)).drew w4) : Aft w w4 x := (Aft.drew w x).trans h
theorem InOne.put {w w0 : World} {B : Nat} {y m d h i s wd yd : Int} (k : InOne w B y m d h i s wd yd w0) (o : Obj) : InOne w B y m d h i s wd yd (w0.alloc o) := k.keep ((Below.refl _ _).alloc (Nat.le_refl _) _)
theorem rtwo_both {w w0 : World} {B : Nat} {y m d h i s wd yd : Int} (k : InOne w B y m d h i s wd yd w0) (n : Int) (h0 : 0 ≤ n) (h1 : n < 100) :
    Calls Tryd.prog 36 #[.int .i64 n] w0 fun e w' => e = .returned (.string (txt (twoL n.toNat))) ∧ InOne w B y m d h i s wd yd w' ∧ Below w0.heap.size w0 w' := by
  refine (refTwo_any n w0 h0 h1).mono ?_
  rintro e w' ⟨rfl, hb⟩
  exact ⟨rfl, k.keep hb, hb⟩
set_option maxHeartbeats 8000000 in
set_option maxRecDepth 100000 in
theorem one_j (t o y m d h i s wd yd : Int) (B : TellBd t o y m d h i s wd yd) (hv : dateV (t + offB o) = dv y m d h i s wd yd) (w : World) :
    Calls Tryd.prog 24 #[.int .u8 106, .int .i64 t, .int .i64 o] w fun e w' => e = .returned (.tuple #[.string (txt (threeL yd.toNat)), .bool true]) ∧ Below w.heap.size w w' := by
  obtain ⟨A, R, x, e1, e2, A0, A1, R0, R1, hx, HX⟩ := hundred_parts yd B.yd0 B.yd1
  have cO := refOf_any t o w B.t0 B.t1
  rw [hv, agg_of] at cO
  have w1b : IntKind.i64.wrap A = A := IntWalk.i64_in _ (by omega)
  have w2b : IntKind.i64.wrap (48 + A) = 48 + A := IntWalk.i64_in _ (by omega)
  have w3b : IntKind.u8.wrap (48 + A) = 48 + A := wrap_u8 (by omega) (by omega)
  have hadd : ∃ b : ByteArray, (∀ w : World, (Op.stringOp .add (txt [x]) (txt (twoL R.toNat))).run Tryd.prog w = .ok (.string b) w) ∧ Hid (b = txt (threeL yd.toNat)) :=
    ⟨_, fun w => run_string_add_sum w _ _ (by rw [txt_size, txt_size, two_len]; show 1 + 2 ≤ _; omega), Lib.hid (by rw [txt_append, ← HX.out]; rfl)⟩
  obtain ⟨b, hadd, HB⟩ := hadd
  have hcv := fun (w w4 : World) (h : Aft w w4 (48 + A)) => conv_aft x (48 + A) hx w w4 h
  have BB := Lib.hid B
  clear B hv hx
  go_enter Tryd.func24, Tryd.ntmps24
  go_wp2_with fail
  refine cO.mono ?_
  rintro e w1 ⟨rfl, hb⟩
  have HK := Lib.hid (InOne.start hb y m d h i s wd yd)
  clear hb cO
  go_wp2_with fail
  have hk := HK.out
  clear HK
  have hA0 := fun w : World => Aft.now w (48 + A)
  have hA1 := fun w : World => Aft.drew w (48 + A)
  generalize w1.alloc (.cells #[.int .i64 y, .int .i64 m, .int .i64 d, .int .i64 h, .int .i64 i, .int .i64 s, .int .i64 wd, .int .i64 yd] 23) = W at *
  generalize w1.heap.size = B at *
  refine wp_region_held_drew (S := fun w' => InOne w B y m d h i s wd yd w' ∧ w'.cell? ⟨B, 7, none⟩ = some (.int .i64 yd)) (by kernel_rfl) ⟨hk.drew, hk.c7⟩ (fun hHeld => ?_)
  refine wpAnyH_take (i := 0) (oi := { dst := some 48, op := Op.fieldAddr 23 (Operand.tmp 8) 7, type := 0, pos := "ref.go:31", after := #[], guard := none }) (v := .pointer (some ⟨B, 7, none⟩)) rfl (by kernel_rfl) (by kernel_rfl) (by kernel_rfl) (fun _ _ _ h => h) (Or.inl ⟨by rfl, fun w0 hS0 => ?_⟩) (by assumption) ?_
  · go_simp
  try simp only [Act.put, List.setIfInBounds_toArray, List.set_cons_zero, List.set_cons_succ]
  refine wpAnyH_take (i := 1) (oi := { dst := some 49, op := Op.load 3 (Operand.tmp 48), type := 3, pos := "ref.go:31", after := #[{ on := 0, ground := Ground.data }], guard := none }) (v := .int .i64 yd) rfl (by kernel_rfl) (by kernel_rfl) (by kernel_rfl) (fun _ _ _ h => h) (Or.inl ⟨by rfl, fun w0 hS0 => ?_⟩) (by assumption) ?_
  · have c := hS0.2; go_simp
  try simp only [Act.put, List.setIfInBounds_toArray, List.set_cons_zero, List.set_cons_succ]
  refine wpAnyH_take (i := 2) (oi := { dst := some 50, op := Op.binOp BinOp.quo 3 (Operand.tmp 49) (Operand.const (Value.int IntKind.i64 100)) 3, type := 3, pos := "ref.go:31", after := #[{ on := 1, ground := Ground.data }], guard := none }) (v := .int .i64 A) rfl (by kernel_rfl) (by kernel_rfl) (by kernel_rfl) (fun _ _ _ h => h) (Or.inl ⟨by rfl, fun w0 hS0 => ?_⟩) (by assumption) ?_
  · go_simp
  try simp only [Act.put, List.setIfInBounds_toArray, List.set_cons_zero, List.set_cons_succ]
  refine wpAnyH_take (i := 3) (oi := { dst := some 51, op := Op.binOp BinOp.add 3 (Operand.const (Value.int IntKind.i64 48)) (Operand.tmp 50) 3, type := 3, pos := "ref.go:31", after := #[{ on := 2, ground := Ground.data }], guard := none }) (v := .int .i64 (48 + A)) rfl (by kernel_rfl) (by kernel_rfl) (by kernel_rfl) (fun _ _ _ h => h) (Or.inl ⟨by rfl, fun w0 hS0 => ?_⟩) (by assumption) ?_
  · go_simp
  try simp only [Act.put, List.setIfInBounds_toArray, List.set_cons_zero, List.set_cons_succ]
  refine wpAnyH_take (i := 4) (oi := { dst := some 52, op := Op.convert 3 5 (Operand.tmp 51), type := 5, pos := "ref.go:31", after := #[{ on := 3, ground := Ground.data }], guard := none }) (v := .int .u8 (48 + A)) rfl (by kernel_rfl) (by kernel_rfl) (by kernel_rfl) (fun _ _ _ h => h) (Or.inl ⟨by rfl, fun w0 hS0 => ?_⟩) (by assumption) ?_
  · go_simp
  try simp only [Act.put, List.setIfInBounds_toArray, List.set_cons_zero, List.set_cons_succ]
  refine wpAnyH_take (i := 7) (oi := { dst := some 55, op := Op.fieldAddr 23 (Operand.tmp 8) 7, type := 0, pos := "ref.go:31", after := #[], guard := none }) (v := .pointer (some ⟨B, 7, none⟩)) rfl (by kernel_rfl) (by kernel_rfl) (by kernel_rfl) (fun _ _ _ h => h) (Or.inl ⟨by rfl, fun w0 hS0 => ?_⟩) (by assumption) ?_
  · go_simp
  try simp only [Act.put, List.setIfInBounds_toArray, List.set_cons_zero, List.set_cons_succ]
  refine wpAnyH_take (i := 8) (oi := { dst := some 56, op := Op.load 3 (Operand.tmp 55), type := 3, pos := "ref.go:31", after := #[{ on := 7, ground := Ground.data }], guard := none }) (v := .int .i64 yd) rfl (by kernel_rfl) (by kernel_rfl) (by kernel_rfl) (fun _ _ _ h => h) (Or.inl ⟨by rfl, fun w0 hS0 => ?_⟩) (by assumption) ?_
  · have c := hS0.2; go_simp
  try simp only [Act.put, List.setIfInBounds_toArray, List.set_cons_zero, List.set_cons_succ]
  refine wpAnyH_take (i := 9) (oi := { dst := some 57, op := Op.binOp BinOp.rem 3 (Operand.tmp 56) (Operand.const (Value.int IntKind.i64 100)) 3, type := 3, pos := "ref.go:31", after := #[{ on := 8, ground := Ground.data }], guard := none }) (v := .int .i64 R) rfl (by kernel_rfl) (by kernel_rfl) (by kernel_rfl) (fun _ _ _ h => h) (Or.inl ⟨by rfl, fun w0 hS0 => ?_⟩) (by assumption) ?_
  · go_simp
  try simp only [Act.put, List.setIfInBounds_toArray, List.set_cons_zero, List.set_cons_succ]
  refine wpAnyH_ready (rs := [5, 10]) (by kernel_rfl) (by simp) ?_
  refine AllReadyH.cons (o := { dst := some 53, op := Op.buildSlice 44 1 #[(0, Operand.tmp 52)], type := 44, pos := "ref.go:31", after := #[{ on := 4, ground := Ground.data }], guard := none }) rfl (fun K hK => ?_) (AllReadyH.cons (o := { dst := some 58, op := Op.call { callee := Callee.value (Operand.func 36), args := #[Operand.tmp 57], argTypes := #[3] }, type := 9, pos := "ref.go:31", after := #[{ on := 9, ground := Ground.data }], guard := none }) rfl (fun K hK => ?_) (AllReadyH.nil))
  · go_simp
    have hk5 := (hk.put (.cells #[.int .u8 (48 + A)] 5)).drew
    refine hK.out _ _ ⟨hk5, (hk5).c7⟩ (fun hHeld => ?_)
    clear hK K
    try simp only [Act.put, List.setIfInBounds_toArray, List.set_cons_zero, List.set_cons_succ]
    refine wpAnyH_ready (rs := [6, 10]) (by kernel_rfl) (by simp) ?_
    refine AllReadyH.cons (o := { dst := some 54, op := Op.convert 44 9 (Operand.tmp 53), type := 9, pos := "ref.go:31", after := #[{ on := 5, ground := Ground.data }], guard := none }) rfl (fun K hK => ?_) (AllReadyH.cons (o := { dst := some 58, op := Op.call { callee := Callee.value (Operand.func 36), args := #[Operand.tmp 57], argTypes := #[3] }, type := 9, pos := "ref.go:31", after := #[{ on := 9, ground := Ground.data }], guard := none }) rfl (fun K hK => ?_) (AllReadyH.nil))
    · go_simp
      refine hK.out _ _ ⟨hk5, (hk5).c7⟩ (fun hHeld => ?_)
      clear hK K
      try simp only [Act.put, List.setIfInBounds_toArray, List.set_cons_zero, List.set_cons_succ]
      refine wpAnyH_ready (rs := [10]) (by kernel_rfl) (by simp) ?_
      refine AllReadyH.cons (o := { dst := some 58, op := Op.call { callee := Callee.value (Operand.func 36), args := #[Operand.tmp 57], argTypes := #[3] }, type := 9, pos := "ref.go:31", after := #[{ on := 9, ground := Ground.data }], guard := none }) rfl (fun K hK => ?_) (AllReadyH.nil)
      go_simp
      refine (rtwo_both (hk5) R R0 R1).mono ?_
      rintro e w3 ⟨rfl, hk3, hb3⟩
      go_wp2_with fail
      refine hK.out _ _ ⟨hk3, (hk3).c7⟩ (fun hHeld => ?_)
      clear hK K
      try simp only [Act.put, List.setIfInBounds_toArray, List.set_cons_zero, List.set_cons_succ]
      refine wpAnyH_take (i := 11) (oi := { dst := some 59, op := Op.binOp BinOp.add 9 (Operand.tmp 54) (Operand.tmp 58) 9, type := 9, pos := "ref.go:31", after := #[{ on := 6, ground := Ground.data }, { on := 10, ground := Ground.data }], guard := none }) (v := .string b) rfl (by kernel_rfl) (by kernel_rfl) (by kernel_rfl) (fun _ _ _ h => h) (Or.inl ⟨by rfl, fun w0 hS0 => ?_⟩) (by assumption) ?_
      · go_simp
      try simp only [Act.put, List.setIfInBounds_toArray, List.set_cons_zero, List.set_cons_succ]
      refine wpAnyH_take (i := 12) (oi := { dst := some 6, op := Op.assign (Operand.tmp 59), type := 9, pos := "ref.go:31", after := #[{ on := 11, ground := Ground.data }, { on := 10, ground := Ground.chain }, { on := 0, ground := Ground.phase }, { on := 1, ground := Ground.phase }, { on := 2, ground := Ground.phase }, { on := 3, ground := Ground.phase }, { on := 4, ground := Ground.phase }, { on := 5, ground := Ground.phase }, { on := 6, ground := Ground.phase }, { on := 7, ground := Ground.phase }, { on := 8, ground := Ground.phase }, { on := 9, ground := Ground.phase }, { on := 10, ground := Ground.phase }, { on := 11, ground := Ground.phase }], guard := none }) (v := .string b) rfl (by kernel_rfl) (by kernel_rfl) (by kernel_rfl) (fun _ _ _ h => h) (Or.inl ⟨by rfl, fun w0 hS0 => ?_⟩) (by assumption) ?_
      · go_simp
      try simp only [Act.put, List.setIfInBounds_toArray, List.set_cons_zero, List.set_cons_succ]
      refine wpAnyH_take (i := 13) (oi := { dst := some 7, op := Op.assign (Operand.const (Value.bool true)), type := 4, pos := "ref.go:31", after := #[{ on := 12, ground := Ground.chain }, { on := 0, ground := Ground.phase }, { on := 1, ground := Ground.phase }, { on := 2, ground := Ground.phase }, { on := 3, ground := Ground.phase }, { on := 4, ground := Ground.phase }, { on := 5, ground := Ground.phase }, { on := 6, ground := Ground.phase }, { on := 7, ground := Ground.phase }, { on := 8, ground := Ground.phase }, { on := 9, ground := Ground.phase }, { on := 10, ground := Ground.phase }, { on := 11, ground := Ground.phase }, { on := 12, ground := Ground.phase }], guard := none }) (v := .bool true) rfl (by kernel_rfl) (by kernel_rfl) (by kernel_rfl) (fun _ _ _ h => h) (Or.inl ⟨by rfl, fun w0 hS0 => ?_⟩) (by assumption) ?_
      · go_simp
      try simp only [Act.put, List.setIfInBounds_toArray, List.set_cons_zero, List.set_cons_succ]
      refine wpAnyH_done (by kernel_rfl) ?_ _
      go_wp2_with fail
      go_ret2
      exact ⟨ret_told HB.out, hk3.below⟩
    · go_simp
      refine (rtwo_both (hk5) R R0 R1).mono ?_
      rintro e w3 ⟨rfl, hk3, hb3⟩
      have hA2 := Aft.two hb3
      go_wp2_with fail
      refine hK.out _ _ ⟨hk3, (hk3).c7⟩ (fun hHeld => ?_)
      clear hK K
      try simp only [Act.put, List.setIfInBounds_toArray, List.set_cons_zero, List.set_cons_succ]
      refine wpAnyH_ready (rs := [6]) (by kernel_rfl) (by simp) ?_
      refine AllReadyH.cons (o := { dst := some 54, op := Op.convert 44 9 (Operand.tmp 53), type := 9, pos := "ref.go:31", after := #[{ on := 5, ground := Ground.data }], guard := none }) rfl (fun K hK => ?_) (AllReadyH.nil)
      go_simp
      refine hK.out _ _ ⟨hk3, (hk3).c7⟩ (fun hHeld => ?_)
      clear hK K
      try simp only [Act.put, List.setIfInBounds_toArray, List.set_cons_zero, List.set_cons_succ]
      refine wpAnyH_take (i := 11) (oi := { dst := some 59, op := Op.binOp BinOp.add 9 (Operand.tmp 54) (Operand.tmp 58) 9, type := 9, pos := "ref.go:31", after := #[{ on := 6, ground := Ground.data }, { on := 10, ground := Ground.data }], guard := none }) (v := .string b) rfl (by kernel_rfl) (by kernel_rfl) (by kernel_rfl) (fun _ _ _ h => h) (Or.inl ⟨by rfl, fun w0 hS0 => ?_⟩) (by assumption) ?_
      · go_simp
      try simp only [Act.put, List.setIfInBounds_toArray, List.set_cons_zero, List.set_cons_succ]
      refine wpAnyH_take (i := 12) (oi := { dst := some 6, op := Op.assign (Operand.tmp 59), type := 9, pos := "ref.go:31", after := #[{ on := 11, ground := Ground.data }, { on := 10, ground := Ground.chain }, { on := 0, ground := Ground.phase }, { on := 1, ground := Ground.phase }, { on := 2, ground := Ground.phase }, { on := 3, ground := Ground.phase }, { on := 4, ground := Ground.phase }, { on := 5, ground := Ground.phase }, { on := 6, ground := Ground.phase }, { on := 7, ground := Ground.phase }, { on := 8, ground := Ground.phase }, { on := 9, ground := Ground.phase }, { on := 10, ground := Ground.phase }, { on := 11, ground := Ground.phase }], guard := none }) (v := .string b) rfl (by kernel_rfl) (by kernel_rfl) (by kernel_rfl) (fun _ _ _ h => h) (Or.inl ⟨by rfl, fun w0 hS0 => ?_⟩) (by assumption) ?_
      · go_simp
      try simp only [Act.put, List.setIfInBounds_toArray, List.set_cons_zero, List.set_cons_succ]
      refine wpAnyH_take (i := 13) (oi := { dst := some 7, op := Op.assign (Operand.const (Value.bool true)), type := 4, pos := "ref.go:31", after := #[{ on := 12, ground := Ground.chain }, { on := 0, ground := Ground.phase }, { on := 1, ground := Ground.phase }, { on := 2, ground := Ground.phase }, { on := 3, ground := Ground.phase }, { on := 4, ground := Ground.phase }, { on := 5, ground := Ground.phase }, { on := 6, ground := Ground.phase }, { on := 7, ground := Ground.phase }, { on := 8, ground := Ground.phase }, { on := 9, ground := Ground.phase }, { on := 10, ground := Ground.phase }, { on := 11, ground := Ground.phase }, { on := 12, ground := Ground.phase }], guard := none }) (v := .bool true) rfl (by kernel_rfl) (by kernel_rfl) (by kernel_rfl) (fun _ _ _ h => h) (Or.inl ⟨by rfl, fun w0 hS0 => ?_⟩) (by assumption) ?_
      · go_simp
      try simp only [Act.put, List.setIfInBounds_toArray, List.set_cons_zero, List.set_cons_succ]
      refine wpAnyH_done (by kernel_rfl) ?_ _
      go_wp2_with fail
      go_ret2
      exact ⟨ret_told HB.out, hk3.below⟩
  · go_simp
    refine (rtwo_both (hk.drew) R R0 R1).mono ?_
    rintro e w3 ⟨rfl, hk3, hb3⟩
    go_wp2_with fail
    refine hK.out _ _ ⟨hk3, (hk3).c7⟩ (fun hHeld => ?_)
    clear hK K
    try simp only [Act.put, List.setIfInBounds_toArray, List.set_cons_zero, List.set_cons_succ]
    refine wpAnyH_ready (rs := [5]) (by kernel_rfl) (by simp) ?_
    refine AllReadyH.cons (o := { dst := some 53, op := Op.buildSlice 44 1 #[(0, Operand.tmp 52)], type := 44, pos := "ref.go:31", after := #[{ on := 4, ground := Ground.data }], guard := none }) rfl (fun K hK => ?_) (AllReadyH.nil)
    go_simp
    have hk5 := hk3.put (.cells #[.int .u8 (48 + A)] 5)
    refine hK.out _ _ ⟨hk5, (hk5).c7⟩ (fun hHeld => ?_)
    clear hK K
    try simp only [Act.put, List.setIfInBounds_toArray, List.set_cons_zero, List.set_cons_succ]
    refine wpAnyH_ready (rs := [6]) (by kernel_rfl) (by simp) ?_
    refine AllReadyH.cons (o := { dst := some 54, op := Op.convert 44 9 (Operand.tmp 53), type := 9, pos := "ref.go:31", after := #[{ on := 5, ground := Ground.data }], guard := none }) rfl (fun K hK => ?_) (AllReadyH.nil)
    go_simp
    refine hK.out _ _ ⟨hk5, (hk5).c7⟩ (fun hHeld => ?_)
    clear hK K
    try simp only [Act.put, List.setIfInBounds_toArray, List.set_cons_zero, List.set_cons_succ]
    refine wpAnyH_take (i := 11) (oi := { dst := some 59, op := Op.binOp BinOp.add 9 (Operand.tmp 54) (Operand.tmp 58) 9, type := 9, pos := "ref.go:31", after := #[{ on := 6, ground := Ground.data }, { on := 10, ground := Ground.data }], guard := none }) (v := .string b) rfl (by kernel_rfl) (by kernel_rfl) (by kernel_rfl) (fun _ _ _ h => h) (Or.inl ⟨by rfl, fun w0 hS0 => ?_⟩) (by assumption) ?_
    · go_simp
    try simp only [Act.put, List.setIfInBounds_toArray, List.set_cons_zero, List.set_cons_succ]
    refine wpAnyH_take (i := 12) (oi := { dst := some 6, op := Op.assign (Operand.tmp 59), type := 9, pos := "ref.go:31", after := #[{ on := 11, ground := Ground.data }, { on := 10, ground := Ground.chain }, { on := 0, ground := Ground.phase }, { on := 1, ground := Ground.phase }, { on := 2, ground := Ground.phase }, { on := 3, ground := Ground.phase }, { on := 4, ground := Ground.phase }, { on := 5, ground := Ground.phase }, { on := 6, ground := Ground.phase }, { on := 7, ground := Ground.phase }, { on := 8, ground := Ground.phase }, { on := 9, ground := Ground.phase }, { on := 10, ground := Ground.phase }, { on := 11, ground := Ground.phase }], guard := none }) (v := .string b) rfl (by kernel_rfl) (by kernel_rfl) (by kernel_rfl) (fun _ _ _ h => h) (Or.inl ⟨by rfl, fun w0 hS0 => ?_⟩) (by assumption) ?_
    · go_simp
    try simp only [Act.put, List.setIfInBounds_toArray, List.set_cons_zero, List.set_cons_succ]
    refine wpAnyH_take (i := 13) (oi := { dst := some 7, op := Op.assign (Operand.const (Value.bool true)), type := 4, pos := "ref.go:31", after := #[{ on := 12, ground := Ground.chain }, { on := 0, ground := Ground.phase }, { on := 1, ground := Ground.phase }, { on := 2, ground := Ground.phase }, { on := 3, ground := Ground.phase }, { on := 4, ground := Ground.phase }, { on := 5, ground := Ground.phase }, { on := 6, ground := Ground.phase }, { on := 7, ground := Ground.phase }, { on := 8, ground := Ground.phase }, { on := 9, ground := Ground.phase }, { on := 10, ground := Ground.phase }, { on := 11, ground := Ground.phase }, { on := 12, ground := Ground.phase }], guard := none }) (v := .bool true) rfl (by kernel_rfl) (by kernel_rfl) (by kernel_rfl) (fun _ _ _ h => h) (Or.inl ⟨by rfl, fun w0 hS0 => ?_⟩) (by assumption) ?_
    · go_simp
    try simp only [Act.put, List.setIfInBounds_toArray, List.set_cons_zero, List.set_cons_succ]
    refine wpAnyH_done (by kernel_rfl) ?_ _
    go_wp2_with fail
    go_ret2
    exact ⟨ret_told HB.out, hk5.below⟩
end Go.Proofs.YtiegibgllnojcaaDoor
