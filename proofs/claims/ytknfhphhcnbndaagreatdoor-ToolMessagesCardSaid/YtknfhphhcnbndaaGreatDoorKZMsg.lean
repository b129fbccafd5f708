/-
  The reference's message of an error is the program's; the law of messages. Conditions: the tables of the world.
-/
import Derived.Test.YtknfhphhcnbndaaGreatDoorKZFail
import Derived.Test.YtknfhphhcnbndaaGreatDoorKZAwake
set_option linter.unusedVariables false
set_option linter.unusedSimpArgs false
namespace Go.Proofs.YtknfhphhcnbndaaGreatDoor.Z
open Go.Proofs.YtknfhphhcnbndaaGreatDoor.B
open Go.RowKit
open Go.Proofs.YtknfhphhcnbndaaGreatDoor.A

def cdL : List Int := [2, 3, 5, 6, 7, 8]
theorem cd_step {e : Int} {i : Nat} (h : ∀ j, j < i → cdL.getD j 0 ≠ e) (hn : cdL.getD i 0 ≠ e) : ∀ j, j < i + 1 → cdL.getD j 0 ≠ e := fun j hj => by
  by_cases hji : j = i
  · subst hji
    exact hn
  · exact h j (by omega)
theorem msg_none {e : Int} (h : ∀ j, j < 6 → cdL.getD j 0 ≠ e) : messageT e = ⟨#[73, 110, 118, 97, 108, 105, 100, 32, 97, 114, 103, 117, 109, 101, 110, 116]⟩ := by
  have h0 : 2 ≠ e := h 0 (by decide)
  have h1 : 3 ≠ e := h 1 (by decide)
  have h2 : 5 ≠ e := h 2 (by decide)
  have h3 : 6 ≠ e := h 3 (by decide)
  have h4 : 7 ≠ e := h 4 (by decide)
  have h5 : 8 ≠ e := h 5 (by decide)
  unfold messageT
  rw [if_neg (Ne.symm h0), if_neg (Ne.symm h1), if_neg (Ne.symm h2), if_neg (Ne.symm h3), if_neg (Ne.symm h4), if_neg (Ne.symm h5)]
theorem idx6_0 (a b c d e f : ByteArray) (w : World) : (Instr.index 110 (.agg #[.string a, .string b, .string c, .string d, .string e, .string f]) (.int .i64 0)).run Tryz.prog w = .ok (.string a) w := by
  simp [Instr.index, run_underlying Tryz.underlying110, asIntOf, go_sem]
theorem idx6_1 (a b c d e f : ByteArray) (w : World) : (Instr.index 110 (.agg #[.string a, .string b, .string c, .string d, .string e, .string f]) (.int .i64 1)).run Tryz.prog w = .ok (.string b) w := by
  simp [Instr.index, run_underlying Tryz.underlying110, asIntOf, go_sem]
theorem idx6_2 (a b c d e f : ByteArray) (w : World) : (Instr.index 110 (.agg #[.string a, .string b, .string c, .string d, .string e, .string f]) (.int .i64 2)).run Tryz.prog w = .ok (.string c) w := by
  simp [Instr.index, run_underlying Tryz.underlying110, asIntOf, go_sem]
theorem idx6_3 (a b c d e f : ByteArray) (w : World) : (Instr.index 110 (.agg #[.string a, .string b, .string c, .string d, .string e, .string f]) (.int .i64 3)).run Tryz.prog w = .ok (.string d) w := by
  simp [Instr.index, run_underlying Tryz.underlying110, asIntOf, go_sem]
theorem idx6_4 (a b c d e f : ByteArray) (w : World) : (Instr.index 110 (.agg #[.string a, .string b, .string c, .string d, .string e, .string f]) (.int .i64 4)).run Tryz.prog w = .ok (.string e) w := by
  simp [Instr.index, run_underlying Tryz.underlying110, asIntOf, go_sem]
theorem idx6_5 (a b c d e f : ByteArray) (w : World) : (Instr.index 110 (.agg #[.string a, .string b, .string c, .string d, .string e, .string f]) (.int .i64 5)).run Tryz.prog w = .ok (.string f) w := by
  simp [Instr.index, run_underlying Tryz.underlying110, asIntOf, go_sem]
set_option maxRecDepth 100000 in
set_option maxHeartbeats 4000000 in
theorem refMessage_any (e : Int) (w : World) : Calls Tryz.prog 26 #[.int .i64 e] w fun en w' => en = .returned (.string (messageT e)) ∧ Below w.heap.size w w' := by
  go_enter Tryz.func26, Tryz.ntmps26
  go_upto_region 2 with fail
  have HB := Lib.hid (show Below w.heap.size w (w.alloc (.cells #[.int .i64 2, .int .i64 3, .int .i64 5, .int .i64 6, .int .i64 7, .int .i64 8] 130)) from (Below.refl _ _).alloc (Nat.le_refl _) _)
  have HX := Lib.hid (show (w.alloc (.cells #[.int .i64 2, .int .i64 3, .int .i64 5, .int .i64 6, .int .i64 7, .int .i64 8] 130)).heap[w.heap.size]? = some (.cells #[.int .i64 2, .int .i64 3, .int .i64 5, .int .i64 6, .int .i64 7, .int .i64 8] 130) from heap_alloc_new _ _)
  generalize w.alloc (.cells #[.int .i64 2, .int .i64 3, .int .i64 5, .int .i64 6, .int .i64 7, .int .i64 8] 130) = w1 at HB HX ⊢
  obtain ⟨B0, hB0⟩ : ∃ B0, w.heap.size = B0 := ⟨_, rfl⟩
  rw [hB0] at HX ⊢
  clear hB0
  go_wp2_with fail
  go_loopw [4] (fun v wr => ∃ (n : Nat) (c : Int), n ≤ 6 ∧ c = (n : Int) ∧ v = .int .i64 c ∧ Hid (∀ j, j < n → cdL.getD j 0 ≠ e) ∧ Hid (wr = w1)) (fun v _ => 6 - (intOf v).toNat)
  case atStart => exact ⟨0, 0, Nat.zero_le _, rfl, rfl, Lib.hid (fun j hj => absurd hj (Nat.not_lt_zero j)), Lib.hid rfl⟩
  case round =>
    obtain ⟨n, c, hn, hcn, rfl, HN, HW⟩ := hrel
    have e0 := HW.out
    subst e0
    clear HW
    by_cases h6 : n < 6
    · have hc : n = 0 ∨ n = 1 ∨ n = 2 ∨ n = 3 ∨ n = 4 ∨ n = 5 := by omega
      rcases hc with rfl | rfl | rfl | rfl | rfl | rfl
      · obtain rfl : c = 0 := hcn
        have x := cell_of_row wr B0 0 _ _ _ HX.out
        have x2 : wr.cell? ⟨B0, 0, none⟩ = some (.int .i64 2) := by rw [x]; rfl
        clear x
        by_cases he : 2 = e
        · subst he
          go_wp2_with fail
          rw [idx6_0]
          go_wp2_with fail
          go_ret
          exact ⟨rfl, HB.out⟩
        · have d : ((2 : Int) == e) = false := beq_eq_false_iff_ne.2 he
          have HN2 := Lib.hid (cd_step HN.out he)
          clear he
          go_wp2_with fail
          go_roundw
          case rel => exact ⟨1, 1, by omega, rfl, rfl, HN2, Lib.hid trivial⟩
          case measure => simp [intOf]
      · obtain rfl : c = 1 := hcn
        have x := cell_of_row wr B0 1 _ _ _ HX.out
        have x2 : wr.cell? ⟨B0, 1, none⟩ = some (.int .i64 3) := by rw [x]; rfl
        clear x
        by_cases he : 3 = e
        · subst he
          go_wp2_with fail
          rw [idx6_1]
          go_wp2_with fail
          go_ret
          exact ⟨rfl, HB.out⟩
        · have d : ((3 : Int) == e) = false := beq_eq_false_iff_ne.2 he
          have HN2 := Lib.hid (cd_step HN.out he)
          clear he
          go_wp2_with fail
          go_roundw
          case rel => exact ⟨2, 2, by omega, rfl, rfl, HN2, Lib.hid trivial⟩
          case measure => simp [intOf]
      · obtain rfl : c = 2 := hcn
        have x := cell_of_row wr B0 2 _ _ _ HX.out
        have x2 : wr.cell? ⟨B0, 2, none⟩ = some (.int .i64 5) := by rw [x]; rfl
        clear x
        by_cases he : 5 = e
        · subst he
          go_wp2_with fail
          rw [idx6_2]
          go_wp2_with fail
          go_ret
          exact ⟨rfl, HB.out⟩
        · have d : ((5 : Int) == e) = false := beq_eq_false_iff_ne.2 he
          have HN2 := Lib.hid (cd_step HN.out he)
          clear he
          go_wp2_with fail
          go_roundw
          case rel => exact ⟨3, 3, by omega, rfl, rfl, HN2, Lib.hid trivial⟩
          case measure => simp [intOf]
      · obtain rfl : c = 3 := hcn
        have x := cell_of_row wr B0 3 _ _ _ HX.out
        have x2 : wr.cell? ⟨B0, 3, none⟩ = some (.int .i64 6) := by rw [x]; rfl
        clear x
        by_cases he : 6 = e
        · subst he
          go_wp2_with fail
          rw [idx6_3]
          go_wp2_with fail
          go_ret
          exact ⟨rfl, HB.out⟩
        · have d : ((6 : Int) == e) = false := beq_eq_false_iff_ne.2 he
          have HN2 := Lib.hid (cd_step HN.out he)
          clear he
          go_wp2_with fail
          go_roundw
          case rel => exact ⟨4, 4, by omega, rfl, rfl, HN2, Lib.hid trivial⟩
          case measure => simp [intOf]
      · obtain rfl : c = 4 := hcn
        have x := cell_of_row wr B0 4 _ _ _ HX.out
        have x2 : wr.cell? ⟨B0, 4, none⟩ = some (.int .i64 7) := by rw [x]; rfl
        clear x
        by_cases he : 7 = e
        · subst he
          go_wp2_with fail
          rw [idx6_4]
          go_wp2_with fail
          go_ret
          exact ⟨rfl, HB.out⟩
        · have d : ((7 : Int) == e) = false := beq_eq_false_iff_ne.2 he
          have HN2 := Lib.hid (cd_step HN.out he)
          clear he
          go_wp2_with fail
          go_roundw
          case rel => exact ⟨5, 5, by omega, rfl, rfl, HN2, Lib.hid trivial⟩
          case measure => simp [intOf]
      · obtain rfl : c = 5 := hcn
        have x := cell_of_row wr B0 5 _ _ _ HX.out
        have x2 : wr.cell? ⟨B0, 5, none⟩ = some (.int .i64 8) := by rw [x]; rfl
        clear x
        by_cases he : 8 = e
        · subst he
          go_wp2_with fail
          rw [idx6_5]
          go_wp2_with fail
          go_ret
          exact ⟨rfl, HB.out⟩
        · have d : ((8 : Int) == e) = false := beq_eq_false_iff_ne.2 he
          have HN2 := Lib.hid (cd_step HN.out he)
          clear he
          go_wp2_with fail
          go_roundw
          case rel => exact ⟨6, 6, by omega, rfl, rfl, HN2, Lib.hid trivial⟩
          case measure => simp [intOf]
    · have h7 : n = 6 := by omega
      subst h7
      obtain rfl : c = 6 := hcn
      have hm := msg_none HN.out
      go_wp2_with fail
      go_ret
      exact ⟨by rw [hm]; rfl, HB.out⟩
set_option maxRecDepth 100000 in
set_option maxHeartbeats 4000000 in
theorem messages_any (e : Int) (w : World) (ht : P.Tab w) (hm : MaxT w) : Calls Tryz.prog 5 #[.int .i64 e] w fun en w' => en = .returned (.bool true) ∧ Below w.heap.size w w' := by
  have HA := Lib.hid (awake17_any w ht hm)
  have HM := Lib.hid (fun (X : World) => message_any e X)
  have HR := Lib.hid (fun (X : World) => refMessage_any e X)
  clear ht hm
  generalize messageT e = T at HM HR
  have HS := Lib.hid (show (T.toList == T.toList) = true from beq_self_eq_true _)
  go_enter Tryz.func5, Tryz.ntmps5
  go_wp2_with fail
  refine HA.out.mono ?_
  rintro en w1 ⟨rfl, hb1⟩
  have HB1 := Lib.hid hb1
  clear hb1 HA
  go_wp2_with fail
  refine (HM.out _).mono ?_
  rintro en w2 ⟨rfl, hw2⟩
  subst hw2
  go_wp2_with fail
  refine (HR.out _).mono ?_
  rintro en w3 ⟨rfl, hb3⟩
  have HB3 := Lib.hid (below_two HB1.out hb3)
  clear hb3
  have hs := HS.out
  go_wp2_with fail
  go_ret
  exact ⟨rfl, HB3.out⟩
end Go.Proofs.YtknfhphhcnbndaaGreatDoor.Z
