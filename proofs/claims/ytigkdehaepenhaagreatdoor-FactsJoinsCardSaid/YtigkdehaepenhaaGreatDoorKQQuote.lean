/-
  What quote.stretches returns. Conditions: the text has at most 1000000 bytes; the library's tables lie.
  What quote.Quote returns, and that the program is awake. Conditions: the text has at most 1000000 bytes; the library's tables lie.
-/
import Derived.Test.YtigkdehaepenhaaGreatDoorKQStrM
set_option linter.unusedVariables false
namespace Go.Proofs.YtigkdehaepenhaaGreatDoor.Q
open Go.RowKit

def StrRel (s : ByteArray) (w : World) (v : Value) (w' : World) : Prop :=
  ∃ (t : ByteArray) (out : Bytes), v = .string t ∧ t.size ≤ s.size ∧ out ++ strP (chunks (L t)) = strP (chunks (L s)) ∧ Bld w w.heap.size out w'
/-- The escapes that have been written. -/
def EscRel (w : World) (t : ByteArray) (out : Bytes) (n : Nat) (v : Value) (w' : World) : Prop :=
  ∃ i : Nat, i ≤ n ∧ v = .int .i64 (i : Int) ∧ Bld w w.heap.size (out ++ ((L t).take i).flatMap esc) w'
theorem esc_next (l : Bytes) (i : Nat) (h : i < l.length) : (l.take (i + 1)).flatMap esc = (l.take i).flatMap esc ++ esc (l[i]) := by
  rw [List.take_succ_eq_append_getElem h, List.flatMap_append]
  simp

set_option maxHeartbeats 4000000 in
set_option maxRecDepth 100000 in
theorem stretches_any (s : ByteArray) (w : World) (hT : Tab w) (hs : s.size ≤ 1000000) :
    Calls Tryz.prog 128 #[.string s] w fun e w' => e = .returned (.string (T (strP (chunks (L s))))) ∧ Below w.heap.size w w' := by
  have HM := Lib.hid (Bld.made w)
  have hsz := strP_len (L s)
  rw [L_len] at hsz
  go_enter Tryz.func128, Tryz.ntmps128
  go_wp2
  go_loopw [0] (StrRel s w) (fun v _ => (textOf v).size)
  case atStart => exact ⟨s, [], rfl, Nat.le_refl _, rfl, HM.out⟩
  case round =>
    obtain ⟨t, out, rfl, hts, hr, hb⟩ := hrel
    have HB := Lib.hid hb
    have HR := Lib.hid hr
    clear hb hr
    by_cases hne : L t = []
    · have he := empty_true hne
      go_wp2_with fail
      refine HB.out.string.mono ?_
      rintro e w2 ⟨rfl, hb2⟩
      go_wp2_with fail
      go_ret
      refine ⟨ret_str ?_, hb2⟩
      rw [← HR.out, hne, chunks_nil, strP_nil, List.append_nil]
    · have he := empty_false hne
      have h0 : 0 < t.size := L_ne.1 hne
      have c1 := run_any t false wr (HB.out.tab hT) (by omega)
      obtain ⟨n1, hn1⟩ : ∃ n, runP false (L t) = n := ⟨_, rfl⟩
      obtain ⟨n2, hn2⟩ : ∃ n, runP true ((L t).drop n1) = n := ⟨_, rfl⟩
      have HS := Lib.hid (strP_at hne hn1 hn2)
      have hl1 : n1 ≤ t.size := by rw [← hn1, ← L_len]; exact run_le _ _
      have hl2 : n2 ≤ t.size - n1 := by
        have := run_le true ((L t).drop n1)
        rw [hn2, List.length_drop, L_len] at this
        exact this
      have h12 : n1 = 0 → 0 < n2 := fun h => by
        rw [h] at hn1
        have := run_some hne hn1
        rw [← hn2, h, List.drop_zero]
        exact this
      have HO : Hid (out.length ≤ 7 * s.size) := Lib.hid (by
        have := congrArg List.length HR.out
        rw [List.length_append] at this
        omega)
      have HO2 : Hid (out.length + (if n1 = 0 then [] else bt ((L t).take n1)).length ≤ 7 * s.size) := Lib.hid (by
        have := congrArg List.length HR.out
        rw [HS.out, List.length_append, List.length_append] at this
        omega)
      rw [hn1] at c1
      have H2 := Lib.hid hn2
      clear hn1 hn2 hne
      go_wp2_with fail
      refine c1.mono ?_
      rintro e w2 ⟨rfl, hb2⟩
      have HB2 := Lib.hid (HB.out.keep hb2)
      clear hb2 c1
      by_cases hz1 : n1 = 0
      · have hz2 := h12 hz1
        have d1 : decide ((0 : Int) < (n1 : Int)) = false := by rw [decide_eq_false_iff_not]; omega
        have LT : Hid (L t = (L t).drop n1) := Lib.hid (by rw [hz1, List.drop_zero])
        have HBa := HB2
        have HOa := HO
        have c2 := run_any t true w2 (HBa.out.tab hT) (by omega)
        rw [show runP true (L t) = n2 by rw [← H2.out, hz1, List.drop_zero]] at c2
        have dz2 : decide ((0 : Int) < (n2 : Int)) = true := by rw [decide_eq_true_eq]; omega
        go_wp2_with fail
        refine c2.mono ?_
        rintro e w5 ⟨rfl, hb5⟩
        have HB5 := Lib.hid (HBa.out.keep hb5)
        clear hb5 c2
        have hq2 : (ByteArray.mk #[36, 39]).size ≤ 1000000000 := by decide
        go_wp2_with fail
        refine (HB5.out.writeString (by have := HOa.out; omega) ⟨#[36, 39]⟩ hq2).mono ?_
        rintro e w6 ⟨⟨v6, rfl⟩, hb6⟩
        have HB6 : Hid (Bld w w.heap.size (out ++ [36, 39]) w6) := Lib.hid hb6
        clear hb6
        have HO6 : Hid ((out ++ [36, 39]).length + 4 * t.size ≤ 100000000) := Lib.hid (by have := HOa.out; rw [List.length_append]; simp only [List.length_cons, List.length_nil]; omega)
        go_wp2_with fail
        go_hide hQ
        go_loopw [27] (EscRel w (t) (out ++ [36, 39]) n2) (fun v _ => n2 - (intOf v).toNat)
        case atStart => exact ⟨0, Nat.zero_le _, rfl, by rw [List.take_zero, List.flatMap_nil, List.append_nil]; exact HB6.out⟩
        case round =>
          obtain ⟨i, hi, rfl, hbi⟩ := hrel
          have HBi := Lib.hid hbi
          clear hbi
          by_cases hlt : i < n2
          · have hit : i < (t).size := by omega
            obtain ⟨c, hc⟩ : ∃ c, (t)[i]'hit = c := ⟨_, rfl⟩
            have HN : Hid (((L (t)).take (i + 1)).flatMap esc = ((L (t)).take i).flatMap esc ++ esc c) := Lib.hid (by rw [esc_next _ i (by rw [L_len]; exact hit), ← get_at _ i hit, hc])
            have cE := writeEscape_any HBi.out (by have := HO6.out; have := esc_all_len ((L (t)).take i); rw [List.length_take, L_len] at this; rw [List.length_append]; omega) c
            obtain ⟨cn, hcn⟩ : ∃ cn, c.toNat = cn := ⟨_, rfl⟩
            rw [hcn] at cE
            go_wp2_with fail
            refine cE.mono ?_
            rintro e w7 ⟨rfl, hb7⟩
            have HB7 := Lib.hid hb7
            clear hb7 cE
            go_wp2_with fail
            go_roundw
            case rel => exact ⟨i + 1, by omega, by go_num, by rw [HN.out, ← List.append_assoc]; exact HB7.out⟩
            case measure => simp [intOf]; omega
          · obtain rfl : i = n2 := by omega
            go_wp2_with fail
            subst hQ
            go_wp2_with fail
            refine (HBi.out.writeByte (by have := HO6.out; have := esc_all_len ((L (t)).take i); rw [List.length_take, L_len] at this; rw [List.length_append]; omega) 39 39 rfl).mono ?_
            rintro e w8 ⟨rfl, hb8⟩
            have HB8 := Lib.hid hb8
            clear hb8
            go_wp2_with fail
            go_roundw
            case rel =>
              refine ⟨(t).extract i (t).size, _, rfl, ?_, ?_, HB8.out⟩
              · have := tail_size (t) i; omega
              · rw [L_from, ← HR.out, HS.out, if_pos hz1, if_neg (by omega), hz1, List.drop_zero]
                simp only [hardS, List.append_assoc, List.cons_append, List.nil_append]
            case measure =>
              show ((t).extract i (t).size).size < t.size
              have := tail_size (t) i; omega
      · have d1 : decide ((0 : Int) < (n1 : Int)) = true := by rw [decide_eq_true_eq]; omega
        have hza : (t.extract 0 n1).size ≤ 1000000 := by rw [← L_len, L_to, List.length_take]; omega
        have LA : Hid (L (t.extract 0 n1) = (L t).take n1) := Lib.hid (L_to t n1)
        go_wp2_with fail
        refine (between_any (t.extract 0 n1) w2 (HB2.out.tab hT) hza).mono ?_
        rintro e w3 ⟨rfl, hb3⟩
        have HB3 := Lib.hid (HB2.out.keep hb3)
        clear hb3
        have hzb : (T (bt (L (t.extract 0 n1)))).size ≤ 1000000000 := by
          have := bt_len (L (t.extract 0 n1))
          rw [T_size]
          rw [L_len] at this
          omega
        go_wp2_with fail
        refine (HB3.out.writeString (by have := HO.out; omega) _ hzb).mono ?_
        rintro e w4 ⟨⟨v4, rfl⟩, hb4⟩
        have HBa : Hid (Bld w w.heap.size (out ++ bt ((L t).take n1)) w4) := Lib.hid (by rw [← LA.out]; exact hb4)
        have HOa : Hid ((out ++ bt ((L t).take n1)).length ≤ 7 * s.size) := Lib.hid (by have := HO2.out; rw [if_neg hz1] at this; rw [List.length_append]; exact this)
        clear hb4
        have hzt := tail_size t n1
        have LT : Hid (L (t.extract n1 t.size) = (L t).drop n1) := Lib.hid (L_from t n1)
        by_cases hz2 : n2 = 0
        · subst hz2
          have c2 := run_any (t.extract n1 t.size) true w4 (HBa.out.tab hT) (by omega)
          rw [LT.out, H2.out] at c2
          go_wp2_with fail
          refine c2.mono ?_
          rintro e w5 ⟨rfl, hb5⟩
          have HB5 := Lib.hid (HBa.out.keep hb5)
          clear hb5 c2
          go_wp2_with fail
          go_roundw
          case rel =>
            refine ⟨t.extract n1 t.size, (out ++ bt ((L t).take n1)), rfl, by omega, ?_, HB5.out⟩
            rw [LT.out, ← HR.out, HS.out, if_neg hz1, if_pos trivial, List.drop_zero, List.nil_append, List.append_assoc]
          case measure =>
            show (t.extract n1 t.size).size < t.size
            omega
        · have hz2p : 0 < n2 := by omega
          have c2 := run_any (t.extract n1 t.size) true w4 (HBa.out.tab hT) (by omega)
          rw [LT.out, H2.out] at c2
          have dz2 : decide ((0 : Int) < (n2 : Int)) = true := by rw [decide_eq_true_eq]; omega
          go_wp2_with fail
          refine c2.mono ?_
          rintro e w5 ⟨rfl, hb5⟩
          have HB5 := Lib.hid (HBa.out.keep hb5)
          clear hb5 c2
          have hq2 : (ByteArray.mk #[36, 39]).size ≤ 1000000000 := by decide
          go_wp2_with fail
          refine (HB5.out.writeString (by have := HOa.out; omega) ⟨#[36, 39]⟩ hq2).mono ?_
          rintro e w6 ⟨⟨v6, rfl⟩, hb6⟩
          have HB6 : Hid (Bld w w.heap.size ((out ++ bt ((L t).take n1)) ++ [36, 39]) w6) := Lib.hid hb6
          clear hb6
          have HO6 : Hid (((out ++ bt ((L t).take n1)) ++ [36, 39]).length + 4 * t.size ≤ 100000000) := Lib.hid (by have := HOa.out; rw [List.length_append]; simp only [List.length_cons, List.length_nil]; omega)
          go_wp2_with fail
          go_hide hQ
          go_loopw [27] (EscRel w (t.extract n1 t.size) ((out ++ bt ((L t).take n1)) ++ [36, 39]) n2) (fun v _ => n2 - (intOf v).toNat)
          case atStart => exact ⟨0, Nat.zero_le _, rfl, by rw [List.take_zero, List.flatMap_nil, List.append_nil]; exact HB6.out⟩
          case round =>
            obtain ⟨i, hi, rfl, hbi⟩ := hrel
            have HBi := Lib.hid hbi
            clear hbi
            by_cases hlt : i < n2
            · have hit : i < (t.extract n1 t.size).size := by omega
              obtain ⟨c, hc⟩ : ∃ c, (t.extract n1 t.size)[i]'hit = c := ⟨_, rfl⟩
              have HN : Hid (((L (t.extract n1 t.size)).take (i + 1)).flatMap esc = ((L (t.extract n1 t.size)).take i).flatMap esc ++ esc c) := Lib.hid (by rw [esc_next _ i (by rw [L_len]; exact hit), ← get_at _ i hit, hc])
              have cE := writeEscape_any HBi.out (by have := HO6.out; have := esc_all_len ((L (t.extract n1 t.size)).take i); rw [List.length_take, L_len] at this; rw [List.length_append]; omega) c
              obtain ⟨cn, hcn⟩ : ∃ cn, c.toNat = cn := ⟨_, rfl⟩
              rw [hcn] at cE
              go_wp2_with fail
              refine cE.mono ?_
              rintro e w7 ⟨rfl, hb7⟩
              have HB7 := Lib.hid hb7
              clear hb7 cE
              go_wp2_with fail
              go_roundw
              case rel => exact ⟨i + 1, by omega, by go_num, by rw [HN.out, ← List.append_assoc]; exact HB7.out⟩
              case measure => simp [intOf]; omega
            · obtain rfl : i = n2 := by omega
              go_wp2_with fail
              subst hQ
              go_wp2_with fail
              refine (HBi.out.writeByte (by have := HO6.out; have := esc_all_len ((L (t.extract n1 t.size)).take i); rw [List.length_take, L_len] at this; rw [List.length_append]; omega) 39 39 rfl).mono ?_
              rintro e w8 ⟨rfl, hb8⟩
              have HB8 := Lib.hid hb8
              clear hb8
              go_wp2_with fail
              go_roundw
              case rel =>
                refine ⟨(t.extract n1 t.size).extract i (t.size - n1), _, rfl, ?_, ?_, HB8.out⟩
                · have := tail_size (t.extract n1 t.size) i; rw [hzt] at this; omega
                · rw [← hzt, L_from, L_from, LT.out, ← HR.out, HS.out, if_neg hz1, if_neg (by omega)]
                  simp only [hardS, List.append_assoc, List.cons_append, List.nil_append]
              case measure =>
                show ((t.extract n1 t.size).extract i (t.size - n1)).size < t.size
                have := tail_size (t.extract n1 t.size) i; rw [hzt] at this; omega
end Go.Proofs.YtigkdehaepenhaaGreatDoor.Q

namespace Go.Proofs.YtigkdehaepenhaaGreatDoor.Q
open Go.RowKit

theorem quoteP_len (style : Int) (l : Bytes) : (quoteP style l).length ≤ 7 * l.length + 2 := by
  have h1 := bare_len l
  have h2 := bt_len l
  have h3 := strP_len l
  have h4 := bsP_len 34 l
  have h5 := bsP_len 32 l
  unfold quoteP
  repeat' split
  all_goals (try simp only [List.length_cons, List.length_append, List.length_nil])
  all_goals omega

set_option maxHeartbeats 2000000 in
set_option maxRecDepth 100000 in
theorem quote_any (style : Int) (s : ByteArray) (w : World) (hT : Tab w) (hs : s.size ≤ 1000000) :
    Calls Tryz.prog 108 #[.int .i64 style, .string s] w fun e w' => e = .returned (.string (T (quoteP style (L s)))) ∧ Below w.heap.size w w' := by
  have c1 := bare_any s w hT hs
  have c2 := between_any s w hT hs
  have c3 := hasHard_any s w hT hs
  by_cases h0 : style = 0
  · subst h0
    have HF : Hid (quoteP 0 (L s) = L s) := Lib.hid rfl
    go_enter Tryz.func108, Tryz.ntmps108
    go_wp2_with fail
    go_ret
    exact ⟨by rw [HF.out]; exact ret_str (T_L s).symm, Below.refl _ _⟩
  · by_cases h1 : style = 1
    · subst h1
      have HF : Hid (quoteP 1 (L s) = bareP (L s)) := Lib.hid rfl
      go_enter Tryz.func108, Tryz.ntmps108
      go_wp2_with fail
      refine c1.mono ?_
      rintro e w2 ⟨rfl, hb⟩
      go_wp2_with fail
      go_ret
      exact ⟨by rw [HF.out]; rfl, hb⟩
    · by_cases h2 : style = 2
      · subst h2
        have HF : Hid (quoteP 2 (L s) = bt (L s)) := Lib.hid rfl
        go_enter Tryz.func108, Tryz.ntmps108
        go_wp2_with fail
        refine c2.mono ?_
        rintro e w2 ⟨rfl, hb⟩
        go_wp2_with fail
        go_ret
        exact ⟨by rw [HF.out]; rfl, hb⟩
      · by_cases h3 : style = 3
        · subst h3
          obtain ⟨p, hp⟩ : ∃ p, hasHard (L s) = p := ⟨_, rfl⟩
          have HF : Hid (quoteP 3 (L s) = if p then strP (chunks (L s)) else bareP (L s)) := Lib.hid (by rw [← hp]; rfl)
          rw [hp] at c3
          clear hp
          cases p with
          | true =>
            go_enter Tryz.func108, Tryz.ntmps108
            go_wp2_with fail
            refine c3.mono ?_
            rintro e w2 ⟨rfl, hb⟩
            go_wp2_with fail
            refine (stretches_any s w2 (hT.keep hb) hs).mono ?_
            rintro e w3 ⟨rfl, hb3⟩
            go_wp2_with fail
            go_ret
            exact ⟨by rw [HF.out]; rfl, below_two hb hb3⟩
          | false =>
            go_enter Tryz.func108, Tryz.ntmps108
            go_wp2_with fail
            refine c3.mono ?_
            rintro e w2 ⟨rfl, hb⟩
            go_wp2_with fail
            refine (bare_any s w2 (hT.keep hb) hs).mono ?_
            rintro e w3 ⟨rfl, hb3⟩
            go_wp2_with fail
            go_ret
            exact ⟨by rw [HF.out]; rfl, below_two hb hb3⟩
        · by_cases h4 : style = 4
          · subst h4
            have c4 := backslashed_any s 34 w hT hs
            have HF : Hid (T (quoteP 4 (L s)) = T ([34] ++ bsP 34 (L s) ++ [34])) := Lib.hid rfl
            have hz := bsP_len 34 (L s)
            rw [L_len] at hz
            generalize bsP 34 (L s) = q at *
            have h34 : (ByteArray.mk #[34]).size = 1 := rfl
            have ha1 : ∀ w : World, (Op.stringOp .add ⟨#[34]⟩ (T q)).run Tryz.prog w = .ok (.string (⟨#[34]⟩ ++ T q)) w := fun w => run_string_add_sum w _ _ (by rw [h34, T_size]; omega)
            have ha2 : ∀ w : World, (Op.stringOp .add (⟨#[34]⟩ ++ T q) ⟨#[34]⟩).run Tryz.prog w = .ok (.string (⟨#[34]⟩ ++ T q ++ ⟨#[34]⟩)) w := fun w => run_string_add_sum w _ _ (by rw [ByteArray.size_append, h34, T_size]; omega)
            go_enter Tryz.func108, Tryz.ntmps108
            go_wp2_with fail
            refine c4.mono ?_
            rintro e w2 ⟨rfl, hb⟩
            go_wp2_with fail
            go_ret
            refine ⟨?_, hb⟩
            rw [HF.out]
            exact ret_str (L_ext (by rw [L_add, L_add]; rfl))
          · by_cases h5 : style = 5
            · subst h5
              have c5 := backslashed_any s 32 w hT hs
              have HF : Hid (quoteP 5 (L s) = bsP 32 (L s)) := Lib.hid rfl
              generalize bsP 32 (L s) = q at *
              go_enter Tryz.func108, Tryz.ntmps108
              go_wp2_with fail
              refine c5.mono ?_
              rintro e w2 ⟨rfl, hb⟩
              go_wp2_with fail
              go_ret
              exact ⟨by rw [HF.out]; rfl, hb⟩
            · have HF : Hid (quoteP style (L s) = []) := Lib.hid (by unfold quoteP; rw [if_neg h0, if_neg h1, if_neg h2, if_neg h3, if_neg h4, if_neg h5])
              have q0 : (style == 0) = false := beq_eq_false_iff_ne.2 h0
              have q1 : (style == 1) = false := beq_eq_false_iff_ne.2 h1
              have q2 : (style == 2) = false := beq_eq_false_iff_ne.2 h2
              have q3 : (style == 3) = false := beq_eq_false_iff_ne.2 h3
              have q4 : (style == 4) = false := beq_eq_false_iff_ne.2 h4
              have q5 : (style == 5) = false := beq_eq_false_iff_ne.2 h5
              go_enter Tryz.func108, Tryz.ntmps108
              go_wp2_with fail
              go_ret
              exact ⟨by rw [HF.out]; rfl, Below.refl _ _⟩

theorem awake_text : quoteP 3 [97, 32, 98, 10] = [39, 97, 32, 98, 39, 36, 39, 92, 110, 39] := by
  have hc : chunks [97, 32, 98, 10] = [[97], [32], [98], [10]] := by
    rw [chunks_ascii _ _ (by decide), chunks_ascii _ _ (by decide), chunks_ascii _ _ (by decide), chunks_ascii _ _ (by decide), chunks_nil]
  unfold quoteP hasHard
  rw [hc]
  have : strP [[97], [32], [98], [10]] = [39, 97, 32, 98, 39, 36, 39, 92, 110, 39] := by
    rw [strP]
    have e1 : ([[97], [32], [98], [10]] : List Bytes).takeWhile (fun c => !hardC c) = [[97], [32], [98]] := by decide
    have e2 : ([[97], [32], [98], [10]] : List Bytes).dropWhile (fun c => !hardC c) = [[10]] := by decide
    have e3 : ([[10]] : List Bytes).takeWhile hardC = [[10]] := by decide
    have e4 : ([[10]] : List Bytes).dropWhile hardC = [] := by decide
    rw [e1, e2, e3, e4, strP_nil]
    decide
  rw [this]
  rfl

end Go.Proofs.YtigkdehaepenhaaGreatDoor.Q
