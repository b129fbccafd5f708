/-
  QuoteApart returns true: two names that aren't the same are quoted apart. Conditions: the library's tables lie.
-/
import Derived.Test.YtlilnljneakngaaDoorQQuote
import Derived.Test.YtlilnljneakngaaDoorQReadM
set_option linter.unusedVariables false
namespace Go.Proofs.YtlilnljneakngaaDoor
open Go.RowKit

theorem T_inj {a b : Bytes} (h : T a = T b) : a = b := by
  have := congrArg L h
  exact this
theorem same_quote (style : Int) (h1 : 1 ≤ style) (h4 : style ≤ 4) (a b : ByteArray) : ((T (quoteP style (L a))).toList == (T (quoteP style (L b))).toList) = (a.toList == b.toList) := by
  rw [beq_L, beq_L, L_T, L_T]
  by_cases h : L a = L b
  · rw [h, decide_eq_true rfl, decide_eq_true rfl]
  · rw [decide_eq_false h, decide_eq_false (fun e => h (quote_inj style h1 h4 _ _ e))]
def StyleRel (lo hi : Int) (w : World) (v : Value) (w' : World) : Prop := ∃ i : Int, lo ≤ i ∧ i ≤ hi ∧ v = .int .i64 i ∧ Below w.heap.size w w'

set_option maxHeartbeats 1000000 in
set_option maxRecDepth 100000 in
theorem apart_any (a b : ByteArray) (w : World) (hT : Tab w) :
    Calls Tryd.prog 3 #[.string a, .string b] w fun e w' => e = .returned (.bool true) ∧ Below w.heap.size w w' := by
  by_cases hlong : 100 < a.size ∨ 100 < b.size
  · have more : ∀ w2, Below w.heap.size w w2 → Calls Tryd.prog 8 #[] w2 fun e w' => e = .returned (.bool true) ∧ Below w.heap.size w w' := fun w2 hb => by
      refine (awake_any w2 (hT.keep hb)).mono ?_
      rintro e w' ⟨rfl, hb2⟩
      exact ⟨rfl, below_two hb hb2⟩
    by_cases ha : 100 < a.size
    · have d1 : decide ((100 : Int) < (a.size : Int)) = true := by rw [decide_eq_true_eq]; omega
      go_enter Tryd.func3, Tryd.ntmps3
      go_wp2_with fail
      refine (awake_any w hT).mono ?_
      rintro e w2 ⟨rfl, hb2⟩
      go_wp2_with fail
      refine (more w2 hb2).mono ?_
      rintro e w3 ⟨rfl, hb3⟩
      go_wp2_with fail
      go_ret
      exact ⟨rfl, hb3⟩
    · have d1 : decide ((100 : Int) < (a.size : Int)) = false := by rw [decide_eq_false_iff_not]; omega
      have d2 : decide ((100 : Int) < (b.size : Int)) = true := by rw [decide_eq_true_eq]; omega
      go_enter Tryd.func3, Tryd.ntmps3
      go_wp2_with fail
      refine (awake_any w hT).mono ?_
      rintro e w2 ⟨rfl, hb2⟩
      go_wp2_with fail
      refine (more w2 hb2).mono ?_
      rintro e w3 ⟨rfl, hb3⟩
      go_wp2_with fail
      go_ret
      exact ⟨rfl, hb3⟩
  · have d1 : decide ((100 : Int) < (a.size : Int)) = false := by rw [decide_eq_false_iff_not]; omega
    have d2 : decide ((100 : Int) < (b.size : Int)) = false := by rw [decide_eq_false_iff_not]; omega
    go_enter Tryd.func3, Tryd.ntmps3
    go_wp2_with fail
    refine (awake_any w hT).mono ?_
    rintro e w2 ⟨rfl, hb2⟩
    have HB := Lib.hid hb2
    clear hb2
    go_wp2_with fail
    go_loopw [5] (StyleRel 1 5 w) (fun v _ => (5 - intOf v).toNat)
    case atStart => exact ⟨1, by decide, by decide, rfl, HB.out⟩
    case round =>
      obtain ⟨i, hi1, hi5, rfl, hbi⟩ := hrel
      have HBi := Lib.hid hbi
      clear hbi
      by_cases h5 : i ≤ 4
      · have HS := Lib.hid (same_quote i hi1 h5 a b)
        have cA := quote_any i a wr (hT.keep HBi.out) (by omega)
        obtain ⟨A, hA⟩ : ∃ A, T (quoteP i (L a)) = A := ⟨_, rfl⟩
        obtain ⟨B, hB⟩ : ∃ B, T (quoteP i (L b)) = B := ⟨_, rfl⟩
        have cB : ∀ w2, Tab w2 → Calls Tryd.prog 9 #[.int .i64 i, .string b] w2 fun e w' => e = .returned (.string B) ∧ Below w2.heap.size w2 w' := fun w2 h2 => by
          rw [← hB]
          exact quote_any i b w2 h2 (by omega)
        rw [hA, hB] at HS
        rw [hA] at cA
        clear hA hB
        have hq : (A.toList == B.toList) = (a.toList == b.toList) := HS.out
        have hd : decide (i ≤ 4) = true := decide_eq_true h5
        go_wp2_with fail
        refine cA.mono ?_
        rintro e w3 ⟨rfl, hb3⟩
        have HB3 := Lib.hid (below_two HBi.out hb3)
        clear hb3 cA
        go_wp2_with fail
        refine (cB w3 (hT.keep HB3.out)).mono ?_
        rintro e w4 ⟨rfl, hb4⟩
        have HB4 := Lib.hid (below_two HB3.out hb4)
        clear hb4 cB
        go_wp2_with fail
        all_goals try (exfalso; simp_all; done)
        go_roundw
        case rel => exact ⟨i + 1, by omega, by omega, by go_num, HB4.out⟩
        case measure => simp [intOf]; omega
      · have hd : decide (i ≤ 4) = false := decide_eq_false h5
        go_wp2_with fail
        go_ret
        exact ⟨rfl, HBi.out⟩
end Go.Proofs.YtlilnljneakngaaDoor
