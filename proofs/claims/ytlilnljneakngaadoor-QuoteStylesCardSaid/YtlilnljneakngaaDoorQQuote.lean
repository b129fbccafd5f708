/-
  What quote.Quote returns, and that the program is awake. Conditions: the text has at most 1000000 bytes; the library's tables lie.
-/
import Derived.Test.YtlilnljneakngaaDoorQStr
set_option linter.unusedVariables false
namespace Go.Proofs.YtlilnljneakngaaDoor
open Go.RowKit

theorem quoteP_len (style : Int) (l : Bytes) : (quoteP style l).length ≤ 7 * l.length + 2 := by
  have h1 := bare_len l
  have h2 := bt_len l
  have h3 := strP_len l
  have h4 := bsP_len 34 l
  have h5 := bsP_len 32 l
  unfold quoteP
  repeat' split
  all_goals (try simp only [List.length_cons, List.length_append, List.length_nil])
  all_goals omega

set_option maxHeartbeats 2000000 in
set_option maxRecDepth 100000 in
theorem quote_any (style : Int) (s : ByteArray) (w : World) (hT : Tab w) (hs : s.size ≤ 1000000) :
    Calls Tryd.prog 9 #[.int .i64 style, .string s] w fun e w' => e = .returned (.string (T (quoteP style (L s)))) ∧ Below w.heap.size w w' := by
  have c1 := bare_any s w hT hs
  have c2 := between_any s w hT hs
  have c3 := hasHard_any s w hT hs
  by_cases h0 : style = 0
  · subst h0
    have HF : Hid (quoteP 0 (L s) = L s) := Lib.hid rfl
    go_enter Tryd.func9, Tryd.ntmps9
    go_wp2_with fail
    go_ret
    exact ⟨by rw [HF.out]; exact ret_str (T_L s).symm, Below.refl _ _⟩
  · by_cases h1 : style = 1
    · subst h1
      have HF : Hid (quoteP 1 (L s) = bareP (L s)) := Lib.hid rfl
      go_enter Tryd.func9, Tryd.ntmps9
      go_wp2_with fail
      refine c1.mono ?_
      rintro e w2 ⟨rfl, hb⟩
      go_wp2_with fail
      go_ret
      exact ⟨by rw [HF.out]; rfl, hb⟩
    · by_cases h2 : style = 2
      · subst h2
        have HF : Hid (quoteP 2 (L s) = bt (L s)) := Lib.hid rfl
        go_enter Tryd.func9, Tryd.ntmps9
        go_wp2_with fail
        refine c2.mono ?_
        rintro e w2 ⟨rfl, hb⟩
        go_wp2_with fail
        go_ret
        exact ⟨by rw [HF.out]; rfl, hb⟩
      · by_cases h3 : style = 3
        · subst h3
          obtain ⟨p, hp⟩ : ∃ p, hasHard (L s) = p := ⟨_, rfl⟩
          have HF : Hid (quoteP 3 (L s) = if p then strP (chunks (L s)) else bareP (L s)) := Lib.hid (by rw [← hp]; rfl)
          rw [hp] at c3
          clear hp
          cases p with
          | true =>
            go_enter Tryd.func9, Tryd.ntmps9
            go_wp2_with fail
            refine c3.mono ?_
            rintro e w2 ⟨rfl, hb⟩
            go_wp2_with fail
            refine (stretches_any s w2 (hT.keep hb) hs).mono ?_
            rintro e w3 ⟨rfl, hb3⟩
            go_wp2_with fail
            go_ret
            exact ⟨by rw [HF.out]; rfl, below_two hb hb3⟩
          | false =>
            go_enter Tryd.func9, Tryd.ntmps9
            go_wp2_with fail
            refine c3.mono ?_
            rintro e w2 ⟨rfl, hb⟩
            go_wp2_with fail
            refine (bare_any s w2 (hT.keep hb) hs).mono ?_
            rintro e w3 ⟨rfl, hb3⟩
            go_wp2_with fail
            go_ret
            exact ⟨by rw [HF.out]; rfl, below_two hb hb3⟩
        · by_cases h4 : style = 4
          · subst h4
            have c4 := backslashed_any s 34 w hT hs
            have HF : Hid (T (quoteP 4 (L s)) = T ([34] ++ bsP 34 (L s) ++ [34])) := Lib.hid rfl
            have hz := bsP_len 34 (L s)
            rw [L_len] at hz
            generalize bsP 34 (L s) = q at *
            have h34 : (ByteArray.mk #[34]).size = 1 := rfl
            have ha1 : ∀ w : World, (Op.stringOp .add ⟨#[34]⟩ (T q)).run Tryd.prog w = .ok (.string (⟨#[34]⟩ ++ T q)) w := fun w => run_string_add_sum w _ _ (by rw [h34, T_size]; omega)
            have ha2 : ∀ w : World, (Op.stringOp .add (⟨#[34]⟩ ++ T q) ⟨#[34]⟩).run Tryd.prog w = .ok (.string (⟨#[34]⟩ ++ T q ++ ⟨#[34]⟩)) w := fun w => run_string_add_sum w _ _ (by rw [ByteArray.size_append, h34, T_size]; omega)
            go_enter Tryd.func9, Tryd.ntmps9
            go_wp2_with fail
            refine c4.mono ?_
            rintro e w2 ⟨rfl, hb⟩
            go_wp2_with fail
            go_ret
            refine ⟨?_, hb⟩
            rw [HF.out]
            exact ret_str (L_ext (by rw [L_add, L_add]; rfl))
          · by_cases h5 : style = 5
            · subst h5
              have c5 := backslashed_any s 32 w hT hs
              have HF : Hid (quoteP 5 (L s) = bsP 32 (L s)) := Lib.hid rfl
              generalize bsP 32 (L s) = q at *
              go_enter Tryd.func9, Tryd.ntmps9
              go_wp2_with fail
              refine c5.mono ?_
              rintro e w2 ⟨rfl, hb⟩
              go_wp2_with fail
              go_ret
              exact ⟨by rw [HF.out]; rfl, hb⟩
            · have HF : Hid (quoteP style (L s) = []) := Lib.hid (by unfold quoteP; rw [if_neg h0, if_neg h1, if_neg h2, if_neg h3, if_neg h4, if_neg h5])
              have q0 : (style == 0) = false := beq_eq_false_iff_ne.2 h0
              have q1 : (style == 1) = false := beq_eq_false_iff_ne.2 h1
              have q2 : (style == 2) = false := beq_eq_false_iff_ne.2 h2
              have q3 : (style == 3) = false := beq_eq_false_iff_ne.2 h3
              have q4 : (style == 4) = false := beq_eq_false_iff_ne.2 h4
              have q5 : (style == 5) = false := beq_eq_false_iff_ne.2 h5
              go_enter Tryd.func9, Tryd.ntmps9
              go_wp2_with fail
              go_ret
              exact ⟨by rw [HF.out]; rfl, Below.refl _ _⟩

theorem awake_text : quoteP 3 [97, 32, 98, 10] = [39, 97, 32, 98, 39, 36, 39, 92, 110, 39] := by
  have hc : chunks [97, 32, 98, 10] = [[97], [32], [98], [10]] := by
    rw [chunks_ascii _ _ (by decide), chunks_ascii _ _ (by decide), chunks_ascii _ _ (by decide), chunks_ascii _ _ (by decide), chunks_nil]
  unfold quoteP hasHard
  rw [hc]
  have : strP [[97], [32], [98], [10]] = [39, 97, 32, 98, 39, 36, 39, 92, 110, 39] := by
    rw [strP]
    have e1 : ([[97], [32], [98], [10]] : List Bytes).takeWhile (fun c => !hardC c) = [[97], [32], [98]] := by decide
    have e2 : ([[97], [32], [98], [10]] : List Bytes).dropWhile (fun c => !hardC c) = [[10]] := by decide
    have e3 : ([[10]] : List Bytes).takeWhile hardC = [[10]] := by decide
    have e4 : ([[10]] : List Bytes).dropWhile hardC = [] := by decide
    rw [e1, e2, e3, e4, strP_nil]
    decide
  rw [this]
  rfl

set_option maxHeartbeats 1000000 in
set_option maxRecDepth 100000 in
theorem awake_any (w : World) (hT : Tab w) : Calls Tryd.prog 8 #[] w fun e w' => e = .returned (.bool true) ∧ Below w.heap.size w w' := by
  have c := quote_any 3 ⟨#[97, 32, 98, 10]⟩ w hT (by decide)
  have e : T (quoteP 3 (L ⟨#[97, 32, 98, 10]⟩)) = ⟨#[39, 97, 32, 98, 39, 36, 39, 92, 110, 39]⟩ := by
    show T (quoteP 3 [97, 32, 98, 10]) = _
    rw [awake_text]
    rfl
  rw [e] at c
  have hq : ((⟨#[39, 97, 32, 98, 39, 36, 39, 92, 110, 39]⟩ : ByteArray).toList == (⟨#[39, 97, 32, 98, 39, 36, 39, 92, 110, 39]⟩ : ByteArray).toList) = true := beq_self_eq_true _
  go_enter Tryd.func8, Tryd.ntmps8
  go_wp2_with fail
  refine c.mono ?_
  rintro e w2 ⟨rfl, hb⟩
  go_wp2_with fail
  go_ret
  exact ⟨rfl, hb⟩
end Go.Proofs.YtlilnljneakngaaDoor
