/-
  The law LayoutFits, walked: it returns true. Conditions: the slice that came in is nil or a row of texts; the package's table lies as its text lays it.
-/
import Derived.Test.YtemnbleacjpfcaaDoorLLaw
set_option linter.unusedVariables false
namespace Go.Proofs.YtemnbleacjpfcaaDoor.L
open Go.Proofs.YtemnbleacjpfcaaDoor.W hiding ret_int below_two
open Go.Proofs.YtemnbleacjpfcaaDoor.N hiding ret_int
open Go.Proofs.YtemnbleacjpfcaaDoor.B
open Go.RowKit

theorem lrows_size {l : List ByteArray} {most : Int} {across : Bool} {k : Nat} (hz : ∀ x ∈ l, x.size ≤ k) : ∀ x ∈ lrows l most across, x.size ≤ (3 * k + 2) * l.length := fun x hx => by
  unfold lrows at hx
  split at hx
  · cases hx
  · rename_i hn
    obtain ⟨r, _, rfl⟩ := List.mem_map.1 hx
    obtain ⟨b1, b2, _⟩ := best_ok l most across l.length
    have h1 := rowT_size (k := k) (bestL l most across) r (fun c hc y hy => hz y (colsL_mem hc hy))
    have h2 : (bestL l most across).length = bestF l most across l.length := colsL_len _ _ _
    rw [h2] at h1
    exact Nat.le_trans h1 (Nat.mul_le_mul_left _ (by omega))
theorem commas_size {l : List ByteArray} {most : Int} {k : Nat} (hz : ∀ x ∈ l, x.size ≤ k) : ∀ x ∈ commasL l most, x.size ≤ (k + 2) * l.length := fun x hx => by
  unfold commasL at hx
  obtain ⟨h1, h2, _⟩ := com_size (most := most) hz l.length (Nat.le_refl _)
  split at hx
  · cases hx
  · rcases List.mem_append.1 hx with hx | hx
    · exact h2 x hx
    · obtain rfl := List.mem_singleton.1 hx
      exact h1
theorem most_wide (l : List ByteArray) : mostW (l.take l.length) = wideL l := by rw [List.take_length]; rfl
theorem most_of {w : World} {a : Option Addr} {cap : Nat} {l : List ByteArray} (H : InL w a l) (hl : l.length ≤ 1000) (hz : ∀ x ∈ l, x.size ≤ 60000) (hn : 0 < l.length) (ht : Tab w) :
    Calls Tryd.prog 15 #[.slice a l.length cap] w fun e w' => e = .returned (.int .i64 (wideL l)) ∧ Below w.heap.size w w' := by
  rcases H with q | ⟨b, off, rfl, hcs⟩
  · omega
  · have := most_some b off l.length cap l w (by omega) (fun i hi => Nat.le_trans (hz _ (atL_mem hi)) (by decide)) ⟨Nat.le_refl _, hcs⟩ ht
    rwa [most_wide] at this
def FitRel (n : Nat) (w : World) (v : Value) (wr : World) : Prop := ∃ i : Nat, v = .int .i64 (i : Int) ∧ i ≤ n ∧ Hid (Below w.heap.size w wr)
set_option maxRecDepth 100000 in
set_option maxHeartbeats 16000000 in
theorem lfits_law (l : List ByteArray) (a : Option Addr) (cap : Nat) (u : Int) (w : World) (H : InL w a l) (hl : l.length ≤ 9223372036854775807) (hu0 : 0 ≤ u) (hu : u ≤ 255) (ht : Tab w) :
    Calls Tryd.prog 4 #[.slice a l.length cap, .int .u8 u] w fun e w' => e = .returned (.bool true) ∧ Below w.heap.size w w' := by
  obtain ⟨it, hit, ht0, ht1, ht2⟩ := info_parts infoText
  have HA := Lib.hid (fun W (hb : Below w.heap.size w W) => lawake_any W (ht.keep hb))
  have HF := Lib.hid (fun W (hb : Below w.heap.size w W) => few_any l a cap W (H.keep hb) hl)
  have HT := Lib.hid ht
  have HX := Lib.hid H
  clear H ht
  go_enter Tryd.func4, Tryd.ntmps4
  go_wp2_with fail
  refine (HA.out w (Below.refl _ _)).mono ?_
  rintro e w1 ⟨rfl, hb⟩
  have HB1 := Lib.hid hb
  clear hb
  go_wp2_with fail
  refine (HF.out w1 HB1.out).mono ?_
  rintro e w2 ⟨⟨b, rfl, hsm⟩, rfl⟩
  have HSm := Lib.hid hsm
  clear hsm
  have early : ∀ W, Below w.heap.size w W → Calls Tryd.prog 5 #[] W fun e w' => e = .returned (.bool true) ∧ Below w.heap.size w w' := fun W hb => by
    refine (HA.out W hb).mono ?_
    rintro e w2 ⟨rfl, hb2⟩
    exact ⟨rfl, below_two hb hb2⟩
  have HEa := Lib.hid early
  clear early
  cases b with
  | false =>
    go_wp2_with fail
    refine (HEa.out w1 HB1.out).mono ?_
    rintro e w2 ⟨rfl, hb⟩
    have HB2 := Lib.hid hb
    clear hb
    go_wp2_with fail
    go_ret
    exact ⟨rfl, HB2.out⟩
  | true =>
    by_cases hn : l.length = 0
    · have d0 : ((l.length : Int) == 0) = true := beq_iff_eq.2 (by omega)
      go_wp2_with fail
      refine (HEa.out w1 HB1.out).mono ?_
      rintro e w2 ⟨rfl, hb⟩
      have HB2 := Lib.hid hb
      clear hb
      go_wp2_with fail
      go_ret
      exact ⟨rfl, HB2.out⟩
    · have d0 : ((l.length : Int) == 0) = false := beq_eq_false_iff_ne.2 (by omega)
      obtain ⟨h30, h100⟩ := HSm.out rfl
      have hz4 : ∀ x ∈ l, x.size ≤ 4000 := fun x hx => Nat.le_trans (h100 x hx) (by decide)
      have hz6 : ∀ x ∈ l, x.size ≤ 60000 := fun x hx => Nat.le_trans (h100 x hx) (by decide)
      have HD := Lib.hid (fun (k : Int) W (hk : k ≤ 9223372036854775807) (hb : Below w.heap.size w W) => down_any l a cap k W (HX.out.keep hb) (by omega) hz4 hk (HT.out.keep hb))
      have HAc := Lib.hid (fun (k : Int) W (hk : k ≤ 9223372036854775807) (hb : Below w.heap.size w W) => across_any l a cap k W (HX.out.keep hb) (by omega) hz4 hk (HT.out.keep hb))
      have HC := Lib.hid (fun (k : Int) W (hb : Below w.heap.size w W) => commas_any l a cap k W (HX.out.keep hb) (by omega) hz4 (HT.out.keep hb))
      have HMo := Lib.hid (fun W (hb : Below w.heap.size w W) => most_of (cap := cap) (HX.out.keep hb) (by omega) hz6 (by omega) (HT.out.keep hb))
      have hk0 : 0 < u + 1 := by omega
      have hwl : 0 ≤ wideL l ∧ wideL l ≤ 1000 := ⟨wideL_nonneg _, by have := wideL_small h100; omega⟩
      have HWd := Lib.hid (show ∀ x ∈ lrows l (u + 1) false ++ lrows l (u + 1) true ++ commasL l (u + 1), wd x 0 ≤ max (u + 1) (wideL l + 1) ∧ x.size ≤ 100000 from fun x hx => by
        have m1 : (3 * 100 + 2) * l.length ≤ 100000 := by omega
        have m2 : (100 + 2) * l.length ≤ 100000 := by omega
        rcases List.mem_append.1 hx with hx | hx
        · rcases List.mem_append.1 hx with hx | hx
          · have := rows_wide hk0 hx
            exact ⟨by omega, Nat.le_trans (lrows_size h100 x hx) m1⟩
          · have := rows_wide hk0 hx
            exact ⟨by omega, Nat.le_trans (lrows_size h100 x hx) m1⟩
        · exact ⟨commas_wide hk0 hx, Nat.le_trans (commas_size h100 x hx) m2⟩)
      have HLn := Lib.hid (show (lrows l (u + 1) false).length ≤ 30 ∧ (lrows l (u + 1) true).length ≤ 30 ∧ (commasL l (u + 1)).length ≤ 31 from by
        have q1 := rows_len (l := l) (most := u + 1) (across := false)
        have q2 := rows_len (l := l) (most := u + 1) (across := true)
        refine ⟨by omega, by omega, ?_⟩
        unfold commasL
        split
        · exact Nat.zero_le _
        · have := (com_size (l := l) (most := u + 1) (k := 100) h100 l.length (Nat.le_refl _)).2.2
          rw [List.length_append]
          show _ + 1 ≤ _
          omega)
      have HFr := Lib.hid (show (lrows l 0 false).length = 1 ∧ (lrows l 0 true).length = 1 ∧ (commasL l 0).length = 1 ∧ (lrows l 1 false).length ≤ l.length from
        ⟨rows_free (Int.le_refl 0) (by omega), rows_free (Int.le_refl 0) (by omega), commas_free (Int.le_refl 0) (by omega), rows_len⟩)
      have HT2 := Lib.hid HT.out
      clear hz4 hz6 h100 HA HF HSm HEa HT
      go_wp2_with fail
      refine (HMo.out w1 HB1.out).mono ?_
      clear HMo
      rintro e w2 ⟨rfl, hb⟩
      have HB2 := Lib.hid (below_two HB1.out hb)
      clear hb
      generalize wideL l = Z at *
      obtain ⟨RA, hRA⟩ : ∃ R, lrows l (u + 1) false = R := ⟨_, rfl⟩
      obtain ⟨RB, hRB⟩ : ∃ R, lrows l (u + 1) true = R := ⟨_, rfl⟩
      obtain ⟨RC, hRC⟩ : ∃ R, commasL l (u + 1) = R := ⟨_, rfl⟩
      have HD1 := Lib.hid (fun W hb => HD.out (u + 1) W (by omega) hb)
      have HA1 := Lib.hid (fun W hb => HAc.out (u + 1) W (by omega) hb)
      have HC1 := Lib.hid (fun W hb => HC.out (u + 1) W hb)
      rw [hRA] at HD1 HWd HLn
      rw [hRB] at HA1 HWd HLn
      rw [hRC] at HC1 HWd HLn
      clear hRA hRB hRC
      have HB3 := Lib.hid (HB2.out.alloc HB2.out.size (.cells #[] 9))
      have HN3 := Lib.hid (show (w2.alloc (.cells #[] 9)).ownsRow w.heap.size 9 1 (.slice (some ⟨w2.heap.size, 0, none⟩) 0 0) 0 [] from made_none w2 HB2.out.size)
      go_wp2_with fail
      generalize w2.alloc (.cells #[] 9) = w3 at *
      refine (HD1.out w3 HB3.out).mono ?_
      rintro e w4 ⟨v1, rfl, ho, hb⟩
      have HB4 := Lib.hid (below_two HB3.out hb)
      have HN4 := Lib.hid (owns_to HN3.out hb)
      have HO4 := Lib.hid ho
      clear ho hb HB3 HN3 HD1
      go_wp2_with (at_builtin; go_loud (refine wpList_append_row rfl (.tmp 27) (.tmp 30) 22 rfl w.heap.size 9 it (.string ⟨#[]⟩) 1 16 Tryd.underlying22 hit ht0 ht1 ht2 rfl (by decide) _ 0 [] rfl HN4.out _ RA.length (strs RA) rfl (owns_lower HO4.out (Nat.zero_le _)) (strs_one _) (by unfold maxLen; have := HLn.out; omega) (by have := HLn.out; omega) HB4.out.size ?_; intro v5 w5 hown hgrow))
      rw [Nat.zero_add, List.nil_append] at hown
      have HB5 := Lib.hid (HB4.out.grown hgrow HB4.out.size (fun k hk => (HN4.out.lt k hk).1))
      have HN5 := Lib.hid hown
      clear hown hgrow HB4 HN4 HO4
      refine (HA1.out w5 HB5.out).mono ?_
      rintro e w6 ⟨v2, rfl, ho, hb⟩
      have HB6 := Lib.hid (below_two HB5.out hb)
      have HN6 := Lib.hid (owns_to HN5.out hb)
      have HO6 := Lib.hid ho
      clear ho hb HB5 HN5 HA1
      go_wp2_with (at_builtin; go_loud (refine wpList_append_row rfl (.tmp 31) (.tmp 34) 22 rfl w.heap.size 9 it (.string ⟨#[]⟩) 1 16 Tryd.underlying22 hit ht0 ht1 ht2 rfl (by decide) _ RA.length (strs RA) rfl HN6.out _ RB.length (strs RB) rfl (owns_lower HO6.out (Nat.zero_le _)) (strs_one _) (by unfold maxLen; have := HLn.out; omega) (by have := HLn.out; omega) HB6.out.size ?_; intro v7 w7 hown hgrow))
      rw [← strs_two] at hown
      have HB7 := Lib.hid (HB6.out.grown hgrow HB6.out.size (fun k hk => (HN6.out.lt k hk).1))
      have HN7 := Lib.hid hown
      clear hown hgrow HB6 HN6 HO6
      refine (HC1.out w7 HB7.out).mono ?_
      rintro e w8 ⟨v3, rfl, ho, hb⟩
      have HB8 := Lib.hid (below_two HB7.out hb)
      have HN8 := Lib.hid (owns_to HN7.out hb)
      have HO8 := Lib.hid ho
      clear ho hb HB7 HN7 HC1
      go_wp2_with (at_builtin; go_loud (refine wpList_append_row rfl (.tmp 35) (.tmp 38) 22 rfl w.heap.size 9 it (.string ⟨#[]⟩) 1 16 Tryd.underlying22 hit ht0 ht1 ht2 rfl (by decide) _ (RA.length + RB.length) (strs (RA ++ RB)) rfl HN8.out _ RC.length (strs RC) rfl (owns_lower HO8.out (Nat.zero_le _)) (strs_one _) (by unfold maxLen; have := HLn.out; omega) (by have := HLn.out; omega) HB8.out.size ?_; intro v9 w9 hown hgrow))
      rw [← strs_two] at hown
      have HB9 := Lib.hid (HB8.out.grown hgrow HB8.out.size (fun k hk => (HN8.out.lt k hk).1))
      have HLe := Lib.hid (show (RA ++ RB ++ RC).length = RA.length + RB.length + RC.length from by rw [List.length_append, List.length_append])
      have HN9 := Lib.hid (show w9.ownsRow w.heap.size 9 1 v9 (RA ++ RB ++ RC).length (strs (RA ++ RB ++ RC)) from by rw [HLe.out]; exact hown)
      clear hown hgrow HB8 HN8 HO8
      obtain ⟨ar, cr, rfl, ir⟩ := inL_of HN9.out
      have HI9 := Lib.hid ir
      have hrl : (RA ++ RB ++ RC).length ≤ 100 := by have := HLe.out; have := HLn.out; omega
      clear ir HN9 HLe HLn
      generalize RA ++ RB ++ RC = RL at *
      obtain ⟨m, hm⟩ : ∃ m, RL.length = m := ⟨_, rfl⟩
      have HM := Lib.hid hm
      rw [hm] at hrl ⊢
      clear hm
      go_wp2_with fail
      go_loopw [8] (FitRel m w9) (fun v _ => m - (intOf v).toNat)
      case atStart => exact ⟨0, rfl, Nat.zero_le _, Lib.hid (Below.refl _ _)⟩
      case round =>
        obtain ⟨i, rfl, hi, HBi⟩ := hrel
        have HBw := Lib.hid (below_two HB9.out HBi.out)
        by_cases him : i < m
        · have e1 : decide ((i : Int) < (m : Int)) = true := decide_eq_true (by omega)
          have hil : i < RL.length := by rw [HM.out]; exact him
          rcases HI9.out.keep HBi.out with q | ⟨b, off, rfl, hcs⟩
          · omega
          have hcell := hcs i hil
          obtain ⟨hw, hs⟩ := HWd.out _ (atL_mem hil)
          clear hcs
          generalize atL RL i = S at *
          go_wp2_with fail
          refine (of_any S wr (by omega) (HT2.out.keep HBw.out)).mono ?_
          rintro e w11 ⟨rfl, hb⟩
          have HB11 := Lib.hid (below_two HBi.out hb)
          clear hb hcell
          generalize wd S 0 = D at *
          by_cases hk : u + 1 < Z + 1
          · have e2 : decide (Z + 1 < D) = false := decide_eq_false (by omega)
            go_wp2_with fail
            go_roundw
            case rel => exact ⟨i + 1, by go_num, by omega, HB11⟩
            case measure => simp [intOf]; omega
          · have e2 : decide (u + 1 < D) = false := decide_eq_false (by omega)
            go_wp2_with fail
            go_roundw
            case rel => exact ⟨i + 1, by go_num, by omega, HB11⟩
            case measure => simp [intOf]; omega
        · have e1 : decide ((i : Int) < (m : Int)) = false := decide_eq_false (by omega)
          obtain ⟨q1, q2, q3, q4⟩ := HFr.out
          have HD0 := Lib.hid (fun W hb => HD.out 0 W (by decide) hb)
          have HA0 := Lib.hid (fun W hb => HAc.out 0 W (by decide) hb)
          have HC0 := Lib.hid (fun W hb => HC.out 0 W hb)
          have HD2 := Lib.hid (fun W hb => HD.out 1 W (by decide) hb)
          rw [q1] at HD0
          rw [q2] at HA0
          rw [q3] at HC0
          obtain ⟨rl, hrlx⟩ : ∃ x, (lrows l 1 false).length = x := ⟨_, rfl⟩
          rw [hrlx] at HD2 q4
          have e4 : decide ((rl : Int) ≤ (l.length : Int)) = true := decide_eq_true (by omega)
          clear HD HAc HC HFr q1 q2 q3 hrlx HWd HI9
          go_wp2_with fail
          refine (HD0.out wr HBw.out).mono ?_
          rintro e w11 ⟨v1, rfl, ho, hb⟩
          have HB11 := Lib.hid (below_two HBw.out hb)
          obtain ⟨a1, c1, rfl⟩ := owns_form ho
          clear ho hb
          go_wp2_with fail
          refine (HA0.out w11 HB11.out).mono ?_
          rintro e w12 ⟨v2, rfl, ho, hb⟩
          have HB12 := Lib.hid (below_two HB11.out hb)
          obtain ⟨a2, c2, rfl⟩ := owns_form ho
          clear ho hb
          go_wp2_with fail
          refine (HC0.out w12 HB12.out).mono ?_
          rintro e w13 ⟨v3, rfl, ho, hb⟩
          have HB13 := Lib.hid (below_two HB12.out hb)
          obtain ⟨a3, c3, rfl⟩ := owns_form ho
          clear ho hb
          go_wp2_with fail
          refine (HD2.out w13 HB13.out).mono ?_
          rintro e w14 ⟨v4, rfl, ho, hb⟩
          have HB14 := Lib.hid (below_two HB13.out hb)
          obtain ⟨a4, c4, rfl⟩ := owns_form ho
          clear ho hb
          go_wp2_with fail
          go_ret
          exact ⟨rfl, HB14.out⟩
theorem fits_walk (a : Option Addr) (len cap : Nat) (ss : List ByteArray) (u : Int) (w : World) (hx : IsTexts w a len ss) (hl : len ≤ 9223372036854775807) (hu0 : 0 ≤ u) (hu : u ≤ 255) (ht : Tab w) :
    Calls Tryd.prog 4 #[.slice a len cap, .int .u8 u] w fun e w' => e = .returned (.bool true) ∧ Below w.heap.size w w' := by
  obtain ⟨l, rfl, h⟩ := inL_take hx
  exact lfits_law l a cap u w h hl hu0 hu ht
end Go.Proofs.YtemnbleacjpfcaaDoor.L
