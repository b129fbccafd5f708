/-
  That the law OrderSorts returns true. Conditions: what came in lies in memory.
-/
import Derived.Test.YteeddednonmglaaDoorOProg
import Derived.Test.YteeddednonmglaaDoorOTill
set_option linter.unusedVariables false
namespace Go.Proofs.YteeddednonmglaaDoor
open Go.RowKit

set_option maxRecDepth 100000 in
theorem oawake_any (w : World) (hp : PT w) :
    Calls Tryd.prog 8 #[] w fun e w' => e = .returned (.bool true) ∧ Below w.heap.size w w' := by
  have h1 : verL (⟨#[101, 57]⟩ : ByteArray).data.toList (⟨#[101, 49, 48]⟩ : ByteArray).data.toList = -1 := by decide +kernel
  have h2 : mkB (extL (⟨#[97, 46, 98, 46, 99]⟩ : ByteArray).data.toList) = ⟨#[46, 99]⟩ := by decide +kernel
  have HV := Lib.hid (over_any ⟨#[101, 57]⟩ ⟨#[101, 49, 48]⟩ w hp (by decide) (by decide))
  have HE := Lib.hid (fun W (hb : Below w.heap.size w W) => oext_any ⟨#[97, 46, 98, 46, 99]⟩ W (hp.keep hb) (by decide))
  rw [h1] at HV
  rw [h2] at HE
  clear h1 h2 hp
  go_enter Tryd.func8, Tryd.ntmps8
  go_wp2_with (first
    | (go_at_call 15; refine HV.out.mono ?_; rintro e w2 ⟨rfl, hb⟩; have HB2 := Lib.hid hb; clear hb)
    | (go_at_call 13; refine (HE.out _ HB2.out).mono ?_; rintro e w3 ⟨rfl, hb⟩; have HB3 := Lib.hid (below_two HB2.out hb); clear hb))
  go_ret
  exact ⟨rfl, HB3.out⟩
theorem few_names {l : List Ky} (h : FewK l) (hl : l.length ≤ 200) : ∀ c ∈ l, c.name.size ≤ 60000 := fun c hc => by
  obtain ⟨k, hk⟩ := List.mem_iff_getElem?.1 hc
  have := h k c (by have := (List.getElem?_eq_some_iff.1 hk).1; omega) hk
  omega
def SameRel (n : Nat) (w0 : World) (v : Value) (wr : World) : Prop := ∃ k : Nat, k ≤ n ∧ v = .int .i64 (k : Int) ∧ Hid (Below w0.heap.size w0 wr)
theorem ints_at {p : List Nat} {k i : Nat} (h : p[k]? = some i) : (ints (p.map fun i : Nat => (i : Int)))[k]? = some (.int .i64 (i : Int)) := by
  unfold ints
  rw [List.getElem?_map, List.getElem?_map, h]
  rfl

set_option maxRecDepth 100000 in
set_option maxHeartbeats 8000000 in
theorem sorts_any (o : Int) (rev dirs : Bool) (l : List Ky) (a : Option Addr) (cap : Nat) (w : World) (hp : PT w) (H : IsKeys w a l) (hl : l.length ≤ 9223372036854775807) (hz : ∀ c ∈ l, c.name.size ≤ 9223372036854775807) :
    Calls Tryd.prog 5 #[.int .i64 o, .agg #[.bool rev, .bool dirs], .slice a l.length cap] w fun e w' => e = .returned (.bool true) ∧ Below w.heap.size w w' := by
  have HK := Lib.hid H
  have HT := Lib.hid hp
  have HAw := Lib.hid (fun W (hb : Below w.heap.size w W) => oawake_any W (hp.keep hb))
  have HFw := Lib.hid (fun W (hb : Below w.heap.size w W) => kfew_any l a cap 40 W (H.keep hb) hl hz)
  clear H hp hz
  go_enter Tryd.func5, Tryd.ntmps5
  go_upto_region 1 with fail
  have HX0 := Lib.hid (heap_alloc_new w (.cells #[.bool rev, .bool dirs] 34))
  have HB0 := Lib.hid (show Below w.heap.size w (w.alloc (.cells #[.bool rev, .bool dirs] 34)) from (Below.refl _ _).alloc (Nat.le_refl _) _)
  generalize w.alloc (.cells #[.bool rev, .bool dirs] 34) = w0 at HX0 HB0 ⊢
  have HCl := Lib.hid (show ∀ W, Below w0.heap.size w0 W → W.cell? ⟨w.heap.size, 0, none⟩ = some (.bool rev) ∧ W.cell? ⟨w.heap.size, 1, none⟩ = some (.bool dirs) from fun W hW => by
    have q := (hW.block _ (heap_lt HX0.out)).trans HX0.out
    refine ⟨?_, ?_⟩ <;> (rw [cell_of_row _ _ _ _ _ _ q]; rfl))
  clear HX0
  go_wp2_with fail
  refine (HAw.out _ HB0.out).mono ?_
  rintro e w2 ⟨rfl, hb2⟩
  have HB2 := Lib.hid hb2
  clear hb2
  go_wp2_with fail
  refine (HFw.out _ (below_two HB0.out HB2.out)).mono ?_
  rintro e w3 ⟨b, rfl, hb, rfl⟩
  have HBb := Lib.hid hb
  clear hb
  cases b with
  | false =>
    go_wp2_with fail
    refine (HAw.out _ (below_two HB0.out HB2.out)).mono ?_
    rintro e w4 ⟨rfl, hb4⟩
    have HB4 := Lib.hid (below_two (below_two HB0.out HB2.out) hb4)
    clear hb4
    go_wp2_with fail
    go_ret
    exact ⟨rfl, HB4.out⟩
  | true =>
    obtain ⟨f1, f2⟩ := HBb.out.1 rfl
    have HBq := Lib.hid (below_two HB0.out HB2.out)
    have hl4 : l.length ≤ 40 := by omega
    have HNm := Lib.hid (few_names f1 (by omega))
    have HS := Lib.hid (fun W (hb : Below w.heap.size w W) => osort_any o rev dirs l a cap W (HT.out.keep hb) (HK.out.keep hb) (by omega) HNm.out)
    have HR := Lib.hid (fun p (hp : Sorted (soC o rev dirs) l p) W (hb : Below w.heap.size w W) => rsort_any o rev dirs l a cap p W (HK.out.keep hb) (by omega) HNm.out hp)
    clear f1 f2 HBb HFw
    go_upto_region 3 with fail
-- TILL 3
    refine Till.region (z := 1000) (S := fun w' => Below w3.heap.size w3 w') (by kernel_rfl) ((Below.refl _ _).drew) (fun hHeld => ?_)
    refine Till.takeA (i := 0) (oi := { dst := some 18, op := Op.move (Operand.tmp 0), type := 3, pos := "law.go:26", after := #[], guard := none }) (v := .int .i64 o) rfl (by kernel_rfl) (by kernel_rfl) (by kernel_rfl) (by rfl) (fun _ _ _ h => h) (Or.inl ⟨by rfl, fun w0 hS0 => ?_⟩) (by assumption) ?_
    · go_simp
    try simp only [Act.put, List.setIfInBounds_toArray, List.set_cons_zero, List.set_cons_succ]
    refine Till.takeA (i := 1) (oi := { dst := some 19, op := Op.indexAddr 34 (Operand.tmp 4) (Operand.const (Value.int IntKind.i64 0)), type := 0, pos := "law.go:26", after := #[], guard := none }) (v := .pointer (some ⟨w.heap.size, 0, none⟩)) rfl (by kernel_rfl) (by kernel_rfl) (by kernel_rfl) (by rfl) (fun _ _ _ h => h) (Or.inl ⟨by rfl, fun w0 hS0 => ?_⟩) (by assumption) ?_
    · go_simp
    try simp only [Act.put, List.setIfInBounds_toArray, List.set_cons_zero, List.set_cons_succ]
    refine Till.takeA (i := 2) (oi := { dst := some 20, op := Op.load 4 (Operand.tmp 19), type := 4, pos := "law.go:26", after := #[{ on := 1, ground := Ground.data }], guard := none }) (v := .bool rev) rfl (by kernel_rfl) (by kernel_rfl) (by kernel_rfl) (by rfl) (fun _ _ _ h => h) (Or.inl ⟨by rfl, fun w0 hS0 => ?_⟩) (by assumption) ?_
    · obtain ⟨k0, k1⟩ := HCl.out _ (below_two HB2.out hS0); go_simp
    try simp only [Act.put, List.setIfInBounds_toArray, List.set_cons_zero, List.set_cons_succ]
    refine Till.takeA (i := 3) (oi := { dst := some 21, op := Op.indexAddr 34 (Operand.tmp 4) (Operand.const (Value.int IntKind.i64 1)), type := 0, pos := "law.go:26", after := #[], guard := none }) (v := .pointer (some ⟨w.heap.size, 1, none⟩)) rfl (by kernel_rfl) (by kernel_rfl) (by kernel_rfl) (by rfl) (fun _ _ _ h => h) (Or.inl ⟨by rfl, fun w0 hS0 => ?_⟩) (by assumption) ?_
    · go_simp
    try simp only [Act.put, List.setIfInBounds_toArray, List.set_cons_zero, List.set_cons_succ]
    refine Till.takeA (i := 4) (oi := { dst := some 22, op := Op.load 4 (Operand.tmp 21), type := 4, pos := "law.go:26", after := #[{ on := 3, ground := Ground.data }], guard := none }) (v := .bool dirs) rfl (by kernel_rfl) (by kernel_rfl) (by kernel_rfl) (by rfl) (fun _ _ _ h => h) (Or.inl ⟨by rfl, fun w0 hS0 => ?_⟩) (by assumption) ?_
    · obtain ⟨k0, k1⟩ := HCl.out _ (below_two HB2.out hS0); go_simp
    try simp only [Act.put, List.setIfInBounds_toArray, List.set_cons_zero, List.set_cons_succ]
    refine Till.takeA (i := 5) (oi := { dst := some 23, op := Op.move (Operand.tmp 2), type := 22, pos := "law.go:26", after := #[], guard := none }) (v := .slice a l.length cap) rfl (by kernel_rfl) (by kernel_rfl) (by kernel_rfl) (by rfl) (fun _ _ _ h => h) (Or.inl ⟨by rfl, fun w0 hS0 => ?_⟩) (by assumption) ?_
    · go_simp
    try simp only [Act.put, List.setIfInBounds_toArray, List.set_cons_zero, List.set_cons_succ]
    refine Till.takeA (i := 7) (oi := { dst := some 25, op := Op.move (Operand.tmp 0), type := 3, pos := "law.go:26", after := #[], guard := none }) (v := .int .i64 o) rfl (by kernel_rfl) (by kernel_rfl) (by kernel_rfl) (by rfl) (fun _ _ _ h => h) (Or.inl ⟨by rfl, fun w0 hS0 => ?_⟩) (by assumption) ?_
    · go_simp
    try simp only [Act.put, List.setIfInBounds_toArray, List.set_cons_zero, List.set_cons_succ]
    refine Till.takeA (i := 8) (oi := { dst := some 26, op := Op.indexAddr 34 (Operand.tmp 4) (Operand.const (Value.int IntKind.i64 0)), type := 0, pos := "law.go:26", after := #[], guard := none }) (v := .pointer (some ⟨w.heap.size, 0, none⟩)) rfl (by kernel_rfl) (by kernel_rfl) (by kernel_rfl) (by rfl) (fun _ _ _ h => h) (Or.inl ⟨by rfl, fun w0 hS0 => ?_⟩) (by assumption) ?_
    · go_simp
    try simp only [Act.put, List.setIfInBounds_toArray, List.set_cons_zero, List.set_cons_succ]
    refine Till.takeA (i := 9) (oi := { dst := some 27, op := Op.load 4 (Operand.tmp 26), type := 4, pos := "law.go:26", after := #[{ on := 8, ground := Ground.data }], guard := none }) (v := .bool rev) rfl (by kernel_rfl) (by kernel_rfl) (by kernel_rfl) (by rfl) (fun _ _ _ h => h) (Or.inl ⟨by rfl, fun w0 hS0 => ?_⟩) (by assumption) ?_
    · obtain ⟨k0, k1⟩ := HCl.out _ (below_two HB2.out hS0); go_simp
    try simp only [Act.put, List.setIfInBounds_toArray, List.set_cons_zero, List.set_cons_succ]
    refine Till.takeA (i := 10) (oi := { dst := some 28, op := Op.indexAddr 34 (Operand.tmp 4) (Operand.const (Value.int IntKind.i64 1)), type := 0, pos := "law.go:26", after := #[], guard := none }) (v := .pointer (some ⟨w.heap.size, 1, none⟩)) rfl (by kernel_rfl) (by kernel_rfl) (by kernel_rfl) (by rfl) (fun _ _ _ h => h) (Or.inl ⟨by rfl, fun w0 hS0 => ?_⟩) (by assumption) ?_
    · go_simp
    try simp only [Act.put, List.setIfInBounds_toArray, List.set_cons_zero, List.set_cons_succ]
    refine Till.takeA (i := 11) (oi := { dst := some 29, op := Op.load 4 (Operand.tmp 28), type := 4, pos := "law.go:26", after := #[{ on := 10, ground := Ground.data }], guard := none }) (v := .bool dirs) rfl (by kernel_rfl) (by kernel_rfl) (by kernel_rfl) (by rfl) (fun _ _ _ h => h) (Or.inl ⟨by rfl, fun w0 hS0 => ?_⟩) (by assumption) ?_
    · obtain ⟨k0, k1⟩ := HCl.out _ (below_two HB2.out hS0); go_simp
    try simp only [Act.put, List.setIfInBounds_toArray, List.set_cons_zero, List.set_cons_succ]
    refine Till.takeA (i := 12) (oi := { dst := some 30, op := Op.move (Operand.tmp 2), type := 22, pos := "law.go:26", after := #[], guard := none }) (v := .slice a l.length cap) rfl (by kernel_rfl) (by kernel_rfl) (by kernel_rfl) (by rfl) (fun _ _ _ h => h) (Or.inl ⟨by rfl, fun w0 hS0 => ?_⟩) (by assumption) ?_
    · go_simp
    try simp only [Act.put, List.setIfInBounds_toArray, List.set_cons_zero, List.set_cons_succ]
    refine Till.next (i := 6) (o := { dst := some 24, op := Op.call { callee := Callee.value (Operand.func 10), args := #[Operand.tmp 18, Operand.tmp 20, Operand.tmp 22, Operand.tmp 23], argTypes := #[3, 4, 4, 22] }, type := 27, pos := "law.go:26", after := #[{ on := 0, ground := Ground.data }, { on := 2, ground := Ground.data }, { on := 4, ground := Ground.data }, { on := 5, ground := Ground.data }], guard := none }) (by kernel_rfl) rfl (fun K hK => ?_)
    go_simp
    refine (HS.out _ (below_two HBq.out hHeld)).mono ?_
    rintro e w4 ⟨v4, p, rfl, hp4, ho4, hb4⟩
    obtain ⟨ao4, ca4, rfl⟩ := owns_form ho4
    have HO4 := Lib.hid ho4
    have HP4 := Lib.hid hp4
    have hHeld4 : Below w3.heap.size w3 w4 := below_two hHeld hb4
    clear ho4 hp4 hb4
    go_wp2_with fail
    refine hK.out _ _ (fun _ => hHeld4) ?_
    clear hK K
    try simp only [Act.put, List.setIfInBounds_toArray, List.set_cons_zero, List.set_cons_succ]
    refine Till.next (i := 13) (o := { dst := some 31, op := Op.call { callee := Callee.value (Operand.func 17), args := #[Operand.tmp 25, Operand.tmp 27, Operand.tmp 29, Operand.tmp 30], argTypes := #[3, 4, 4, 22] }, type := 27, pos := "law.go:26", after := #[{ on := 7, ground := Ground.data }, { on := 9, ground := Ground.data }, { on := 11, ground := Ground.data }, { on := 12, ground := Ground.data }, { on := 6, ground := Ground.chain }], guard := none }) (by kernel_rfl) rfl (fun K hK => ?_)
    go_simp
    refine (HR.out _ HP4.out _ (below_two HBq.out hHeld4)).mono ?_
    rintro e w5 ⟨v5, rfl, ho5, hb5⟩
    obtain ⟨ao5, ca5, rfl⟩ := owns_form ho5
    have HO5 := Lib.hid ho5
    have HB5 := Lib.hid hb5
    have hHeld5 : Below w3.heap.size w3 w5 := below_two hHeld4 hb5
    clear ho5 hb5
    go_wp2_with fail
    refine hK.out _ _ (fun _ => hHeld5) ?_
    clear hK K
    try simp only [Act.put, List.setIfInBounds_toArray, List.set_cons_zero, List.set_cons_succ]
    refine Till.takeA (i := 14) (oi := { dst := some 7, op := Op.assign (Operand.tmp 24), type := 27, pos := "law.go:26", after := #[{ on := 6, ground := Ground.data }, { on := 13, ground := Ground.chain }, { on := 0, ground := Ground.phase }, { on := 1, ground := Ground.phase }, { on := 2, ground := Ground.phase }, { on := 3, ground := Ground.phase }, { on := 4, ground := Ground.phase }, { on := 5, ground := Ground.phase }, { on := 6, ground := Ground.phase }, { on := 7, ground := Ground.textOnly Departure.lateStores }, { on := 8, ground := Ground.textOnly Departure.lateStores }, { on := 9, ground := Ground.textOnly Departure.lateStores }, { on := 10, ground := Ground.textOnly Departure.lateStores }, { on := 11, ground := Ground.textOnly Departure.lateStores }, { on := 12, ground := Ground.textOnly Departure.lateStores }, { on := 13, ground := Ground.textOnly Departure.lateStoresUnsure }], guard := none }) (v := .slice ao4 l.length ca4) rfl (by kernel_rfl) (by kernel_rfl) (by kernel_rfl) (by rfl) (fun _ _ _ h => h) (Or.inl ⟨by rfl, fun w0 hS0 => ?_⟩) (by assumption) ?_
    · go_simp
    try simp only [Act.put, List.setIfInBounds_toArray, List.set_cons_zero, List.set_cons_succ]
    refine Till.takeA (i := 15) (oi := { dst := some 8, op := Op.assign (Operand.tmp 31), type := 27, pos := "law.go:26", after := #[{ on := 13, ground := Ground.data }, { on := 14, ground := Ground.chain }, { on := 0, ground := Ground.phase }, { on := 1, ground := Ground.phase }, { on := 2, ground := Ground.phase }, { on := 3, ground := Ground.phase }, { on := 4, ground := Ground.phase }, { on := 5, ground := Ground.phase }, { on := 6, ground := Ground.phase }, { on := 7, ground := Ground.phase }, { on := 8, ground := Ground.phase }, { on := 9, ground := Ground.phase }, { on := 10, ground := Ground.phase }, { on := 11, ground := Ground.phase }, { on := 12, ground := Ground.phase }, { on := 13, ground := Ground.phase }, { on := 14, ground := Ground.phase }], guard := none }) (v := .slice ao5 l.length ca5) rfl (by kernel_rfl) (by kernel_rfl) (by kernel_rfl) (by rfl) (fun _ _ _ h => h) (Or.inl ⟨by rfl, fun w0 hS0 => ?_⟩) (by assumption) ?_
    · go_simp
    try simp only [Act.put, List.setIfInBounds_toArray, List.set_cons_zero, List.set_cons_succ]
    refine Till.done (by kernel_rfl) ?_
-- TILL 3 END
    have HBe := Lib.hid (below_two HBq.out hHeld5)
    have HO45 := Lib.hid (owns_to HO4.out HB5.out)
    have hpl : p.length = l.length := HP4.out.length
    clear hHeld hHeld4 hHeld5 HO4
    go_wp2_with fail
    go_loopw [9] (SameRel l.length w5) (fun v _ => l.length - (intOf v).toNat)
    case atStart => exact ⟨0, Nat.zero_le _, rfl, Lib.hid (Below.refl _ _)⟩
    case round =>
      obtain ⟨k, hk, rfl, HBk⟩ := hrel
      by_cases hlt : k < l.length
      · have e1 : decide ((k : Int) < (l.length : Int)) = true := decide_eq_true (by omega)
        obtain ⟨i, hi⟩ : ∃ i, p[k]? = some i := ⟨_, List.getElem?_eq_getElem (by omega)⟩
        have HO6 := Lib.hid (owns_to HO45.out HBk.out)
        have HO7 := Lib.hid (owns_to HO5.out HBk.out)
        obtain ⟨g1, q1, ex, _, _⟩ := owns_some HO6.out (by omega)
        obtain ⟨g2, q2, ey, _, _⟩ := owns_some HO7.out (by omega)
        simp only [Value.slice.injEq] at ex ey
        obtain ⟨rfl, _, rfl⟩ := ex
        obtain ⟨rfl, _, rfl⟩ := ey
        have a0 : ∀ n, (wr.drewN n).cell? ⟨g1, k, none⟩ = some (.int .i64 (i : Int)) := fun n => owns_cell HO6.out (ints_at hi)
        have a1 : ∀ n, (wr.drewN n).cell? ⟨g2, k, none⟩ = some (.int .i64 (i : Int)) := fun n => owns_cell HO7.out (ints_at hi)
        have b0 : wr.cell? ⟨g1, k, none⟩ = some (.int .i64 (i : Int)) := owns_cell HO6.out (ints_at hi)
        have b1 : wr.cell? ⟨g2, k, none⟩ = some (.int .i64 (i : Int)) := owns_cell HO7.out (ints_at hi)
        clear hi
        go_upto_region 9 with fail
        go_quiet (fail)
        have HBn := Lib.hid (show Below w5.heap.size w5 (wr.drewN nq) from below_drewN' HBk.out)
        generalize wr.drewN nq = w6 at HBn ⊢
        clear a0 a1 b0 b1
        go_wp2_with fail
        go_roundw
        case rel => exact ⟨k + 1, by omega, by simp, HBn⟩
        case measure => simp [intOf]; omega
      · have e1 : decide ((k : Int) < (l.length : Int)) = false := decide_eq_false (by omega)
        go_wp2_with fail
        go_ret
        exact ⟨rfl, below_two HBe.out HBk.out⟩
end Go.Proofs.YteeddednonmglaaDoor
