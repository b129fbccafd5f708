/-
  What the reference's Quote returns. Conditions: the text has at most 100000 bytes.
-/
import Derived.Test.YtigkdehaepenhaaGreatDoorFQAlways
import Derived.Deep.QuietTactic
import Derived.BigQuiet
set_option linter.unusedSimpArgs false
set_option linter.unusedVariables false
namespace Go.Proofs.YtigkdehaepenhaaGreatDoor.Q
open Go.RowKit

def QRel1 (e : Bool) (ks : List Nat) (v6 v7 v8 : Value) : Prop :=
  ∃ (i : Nat) (P H : Bool), i ≤ ks.length ∧ v8 = .int .i64 (i : Int) ∧ v6 = .bool P ∧ v7 = .bool H ∧ P = (e && (ks.take i).all (· == 1)) ∧ H = (ks.take i).any (· == 2)
def QRel2 (n : Nat) (ts : List Tag) (w : World) (v9 v10 v11 : Value) (w' : World) : Prop :=
  ∃ (i : Nat) (p q : ByteArray), i ≤ n ∧ v11 = .int .i64 (i : Int) ∧ v9 = .string p ∧ v10 = .string q ∧ q.size ≤ 4 * i ∧ L p ++ rf3 (L q) (ts.drop i) = rf3 [] ts ∧ Below w.heap.size w w'
def QRel3 (n : Nat) (sign : UInt8) (l : Bytes) (ks : List Nat) (w : World) (v9 v12 : Value) (w' : World) : Prop :=
  ∃ (i : Nat) (p : ByteArray), i ≤ n ∧ v12 = .int .i64 (i : Int) ∧ v9 = .string p ∧ L p ++ rfB sign (l.drop i) (ks.drop i) = rfB sign l ks ∧ Below w.heap.size w w'
theorem all_next {ks : List Nat} {i k : Nat} (hi : i < ks.length) (hk : ks[i]'hi = k) (e : Bool) : (e && (ks.take (i + 1)).all (· == 1)) = ((e && (ks.take i).all (· == 1)) && (k == 1)) := by
  rw [List.take_succ_eq_append_getElem hi, List.all_append, hk]
  simp [Bool.and_assoc]
theorem any_next {ks : List Nat} {i k : Nat} (hi : i < ks.length) (hk : ks[i]'hi = k) : (ks.take (i + 1)).any (· == 2) = ((ks.take i).any (· == 2) || (k == 2)) := by
  rw [List.take_succ_eq_append_getElem hi, List.any_append, hk]
  simp
theorem beq_int (k m : Nat) : ((k : Int) == (m : Int)) = (k == m) := by
  by_cases h : k = m
  · subst h; simp
  · rw [beq_eq_false_iff_ne.2 h, beq_eq_false_iff_ne.2 (by omega)]
theorem plain_soft {l : Bytes} (h : allPlain l = true) : hasHard l = false := by
  unfold allPlain at h
  unfold hasHard
  rw [List.all_eq_true] at h
  rw [List.any_eq_false]
  intro c hc e
  have := beq_iff_eq.1 (h c hc)
  unfold hardC at e
  rw [this] at e
  cases e
theorem zip_drop (l : Bytes) (ks : List Nat) (h : l.length = ks.length) (i : Nat) (hl : i < l.length) : (l.zip ks).drop i = (l[i]'hl, ks[i]'(by omega)) :: (l.zip ks).drop (i + 1) := by
  have hz : i < (l.zip ks).length := by rw [List.length_zip]; omega
  rw [List.drop_eq_getElem_cons hz, List.getElem_zip]
theorem ks_drop (ks : List Nat) (i : Nat) (h : i < ks.length) : ks.drop i = ks[i]'h :: ks.drop (i + 1) := List.drop_eq_getElem_cons h

theorem below_drewN {B : Nat} {W0 w : World} (h : Below B W0 w) (q : Nat) : Below B W0 (w.drewN q) := ⟨h.os, h.tape, h.output, h.size, h.block⟩

set_option maxHeartbeats 8000000 in
set_option maxRecDepth 200000 in
theorem refQuote_any (style : Int) (s : ByteArray) (w : World) (hs : s.size ≤ 100000) :
    Calls Tryz.prog 53 #[.int .i64 style, .string s] w fun e w' => e = .returned (.string (T (quoteP style (L s)))) ∧ Below w.heap.size w w' := by
  have cK := kinds_any s w (by omega)
  have hkl := kindsP_len (L s)
  rw [L_len] at hkl
  have HP0 := Lib.hid (kinds_plain (L s))
  have HH0 := Lib.hid (kinds_hard (L s))
  have HB4 := Lib.hid (rfB_all 34 (by decide) (L s))
  have HB5 := Lib.hid (rfB_all 32 (by decide) (L s))
  have HT3 := Lib.hid (rf3_all (L s))
  obtain ⟨ks, hks⟩ : ∃ ks, kindsP (L s) = ks := ⟨_, rfl⟩
  rw [hks] at cK hkl HP0 HH0 HB4 HB5 HT3
  clear hks
  obtain ⟨ee, hee⟩ : ∃ ee, decide (0 < s.size) = ee := ⟨_, rfl⟩
  have HE : Hid (ee = decide (L s ≠ [])) := Lib.hid (by
    rw [← hee]
    by_cases h : L s = []
    · rw [decide_eq_false (by have := L_len s; rw [h] at this; simp at this; omega), decide_eq_false (fun x => x h)]
    · rw [decide_eq_true (by have := L_ne.1 h; omega), decide_eq_true h])
  go_enter Tryz.func53, Tryz.ntmps53
  go_wp2_with fail
  refine cK.mono ?_
  rintro e wk ⟨v, rfl, hown⟩
  obtain ⟨a, cap, rfl, hcell⟩ := hown.form
  have HBk := Lib.hid hown.below
  have HC := Lib.hid hcell
  clear hown hcell cK
  go_wp2_with fail
  go_loop [6, 7, 8] (QRel1 ee ks) (fun _ _ v => ks.length - (intOf v).toNat)
  case atStart => exact ⟨0, ee, false, Nat.zero_le _, rfl, by first | rfl | rw [hee], rfl, by simp, by simp⟩
  case round =>
    obtain ⟨i, P, H, hi, rfl, rfl, rfl, hP, hH⟩ := hrel
    clear hee
    by_cases hlt : i < ks.length
    · obtain ⟨g, rfl, hck⟩ := HC.out i hlt
      obtain ⟨k, hk⟩ : ∃ k, ks[i]'hlt = k := ⟨_, rfl⟩
      rw [hk] at hck
      have HP1 : Hid ((ee && (ks.take (i + 1)).all (· == 1)) = (P && ((k : Int) == 1))) := Lib.hid (by rw [all_next hlt hk, ← hP, show ((k : Int) == 1) = (k == 1) from beq_int k 1])
      have HH1 : Hid ((ks.take (i + 1)).any (· == 2) = (H || ((k : Int) == 2))) := Lib.hid (by rw [any_next hlt hk, ← hH, show ((k : Int) == 2) = (k == 2) from beq_int k 2])
      clear hP hH hk
      cases P with
      | true =>
        cases H with
        | true =>
          go_wp2_with fail
          refine ⟨⟨i + 1, _, _, by omega, by go_num, rfl, rfl, by rw [HP1.out]; simp, by rw [HH1.out]; simp⟩, ?_⟩
          simp [intOf]; omega
        | false =>
          go_wp2_with fail
          refine ⟨⟨i + 1, _, _, by omega, by go_num, rfl, rfl, by rw [HP1.out]; simp, by rw [HH1.out]; simp⟩, ?_⟩
          simp [intOf]; omega
      | false =>
        cases H with
        | true =>
          go_wp2_with fail
          refine ⟨⟨i + 1, _, _, by omega, by go_num, rfl, rfl, by rw [HP1.out]; simp, by rw [HH1.out]; simp⟩, ?_⟩
          simp [intOf]; omega
        | false =>
          go_wp2_with fail
          refine ⟨⟨i + 1, _, _, by omega, by go_num, rfl, rfl, by rw [HP1.out]; simp, by rw [HH1.out]; simp⟩, ?_⟩
          simp [intOf]; omega
    · obtain rfl : i = ks.length := by omega
      rw [List.take_length, HP0.out] at hP
      rw [List.take_length, HH0.out] at hH
      rw [HE.out] at hP
      clear HE HP0 HH0
      have HPp := Lib.hid hP
      have HHh := Lib.hid hH
      clear hP hH
      by_cases h0 : style = 0
      · subst h0
        have HF : Hid (quoteP 0 (L s) = L s) := Lib.hid rfl
        go_wp2_with fail
        go_ret
        exact ⟨by rw [HF.out]; exact ret_str (T_L s).symm, HBk.out⟩
      · have q0 : (style == 0) = false := beq_eq_false_iff_ne.2 h0
        by_cases h1 : style = 1
        · subst h1
          cases P with
          | true =>
            have HF : Hid (quoteP 1 (L s) = L s) := Lib.hid (by
              show bareP (L s) = _
              unfold bareP
              have := HPp.out.symm
              rw [Bool.and_eq_true, decide_eq_true_eq] at this
              rw [if_pos this])
            go_wp2_with fail
            go_ret
            exact ⟨by rw [HF.out]; exact ret_str (T_L s).symm, HBk.out⟩
          | false =>
            have HF : Hid (quoteP 1 (L s) = bt (L s)) := Lib.hid (by
              show bareP (L s) = _
              unfold bareP
              rw [if_neg]
              rintro ⟨x, y⟩
              have hP := HPp.out; rw [y, decide_eq_true x] at hP
              cases hP)
            go_wp2_with fail
            refine (always_any s wk (by omega)).mono ?_
            rintro e w2 ⟨rfl, rfl⟩
            go_wp2_with fail
            go_ret
            exact ⟨by rw [HF.out]; rfl, HBk.out⟩
        · have q1 : (style == 1) = false := beq_eq_false_iff_ne.2 h1
          by_cases h2 : style = 2
          · subst h2
            have HF : Hid (quoteP 2 (L s) = bt (L s)) := Lib.hid rfl
            go_wp2_with fail
            refine (always_any s wk (by omega)).mono ?_
            rintro e w2 ⟨rfl, rfl⟩
            go_wp2_with fail
            go_ret
            exact ⟨by rw [HF.out]; rfl, HBk.out⟩
          · have q2 : (style == 2) = false := beq_eq_false_iff_ne.2 h2
            by_cases h3 : style = 3
            · subst h3
              cases P with
              | true =>
                have HF : Hid (quoteP 3 (L s) = L s) := Lib.hid (by
                  show (if hasHard (L s) then _ else bareP (L s)) = _
                  have := HPp.out.symm
                  rw [Bool.and_eq_true, decide_eq_true_eq] at this
                  rw [plain_soft this.2, if_neg (by decide)]
                  unfold bareP
                  rw [if_pos this])
                go_wp2_with fail
                go_ret
                exact ⟨by rw [HF.out]; exact ret_str (T_L s).symm, HBk.out⟩
              | false =>
                cases H with
                | false =>
                  have HF : Hid (quoteP 3 (L s) = bt (L s)) := Lib.hid (by
                    show (if hasHard (L s) then _ else bareP (L s)) = _
                    rw [← HHh.out, if_neg (by decide)]
                    unfold bareP
                    rw [if_neg]
                    rintro ⟨x, y⟩
                    have hP := HPp.out; rw [y, decide_eq_true x] at hP
                    cases hP)
                  go_wp2_with fail
                  refine (always_any s wk (by omega)).mono ?_
                  rintro e w2 ⟨rfl, rfl⟩
                  go_wp2_with fail
                  go_ret
                  exact ⟨by rw [HF.out]; rfl, HBk.out⟩
                | true =>
                  have HF : Hid (quoteP 3 (L s) = strP (chunks (L s))) := Lib.hid (by
                    show (if hasHard (L s) then _ else bareP (L s)) = _
                    rw [← HHh.out, if_pos rfl])
                  have hstl := strP_len (L s)
                  rw [L_len] at hstl
                  obtain ⟨ts, hts⟩ : ∃ ts, (L s).zip ks = ts := ⟨_, rfl⟩
                  have HTS : Hid (rf3 [] ts = strP (chunks (L s))) := Lib.hid (by rw [← hts]; exact HT3.out)
                  have HZ : Hid (∀ j (hl : j < (L s).length) (hk : j < ks.length), ts.drop j = ((L s)[j]'hl, ks[j]'hk) :: ts.drop (j + 1)) := Lib.hid (fun j hl hk => by rw [← hts]; exact zip_drop _ _ (by rw [L_len, hkl]) j hl)
                  have HZE : Hid (ts.drop s.size = []) := Lib.hid (List.drop_eq_nil_of_le (by rw [← hts, List.length_zip, L_len, hkl]; omega))
                  clear hts
                  go_wp2_with fail
                  go_loopw [9, 10, 11] (QRel2 s.size ts wk) (fun _ _ v _ => s.size - (intOf v).toNat)
                  case atStart => exact ⟨0, ⟨#[]⟩, ⟨#[]⟩, Nat.zero_le _, rfl, rfl, rfl, Nat.le_refl _, by rw [List.drop_zero]; rfl, Below.refl _ _⟩
                  case round =>
                    obtain ⟨i, p, q, hi, rfl, rfl, rfl, hqz, hr, hb⟩ := hrel
                    have HB := Lib.hid hb
                    have HR := Lib.hid hr
                    clear hb hr
                    have hpz : p.size ≤ 7 * s.size := by
                      have := congrArg List.length HR.out
                      rw [HTS.out, List.length_append, L_len] at this
                      omega
                    by_cases hlt : i < s.size
                    · have hll : i < (L s).length := by rw [L_len]; exact hlt
                      have ei := get_nth' s i hlt
                      obtain ⟨b, hbb⟩ : ∃ b, nth (L s) i = b := ⟨_, rfl⟩
                      rw [hbb] at ei
                      obtain ⟨c, hc⟩ : ∃ c, s[i]'hlt = c := ⟨_, rfl⟩
                      rw [hc] at ei
                      have hb256 : b < 256 := by rw [← ei]; exact c.toNat_lt
                      obtain ⟨g, rfl, hcg⟩ := HC.out i (by omega)
                      obtain ⟨k, hk⟩ : ∃ k, ks[i]'(by omega) = k := ⟨_, rfl⟩
                      rw [hk] at hcg
                      have HCG := Lib.hid hcg
                      have hck : wr.cell? ⟨g, i, none⟩ = some (.int .i64 (k : Int)) := by rw [HB.out.cell (p := ⟨g, i, none⟩) (cell_lt hcg)]; exact hcg
                      have HD : Hid (ts.drop i = (c, k) :: ts.drop (i + 1)) := Lib.hid (by
                        rw [HZ.out i hll (by omega), hk]
                        have : (L s)[i]'hll = c := by rw [← hc]; rfl
                        rw [this])
                      have HX : Hid (L (s.extract i (i + 1)) = [c]) := Lib.hid (by rw [one_byte s i hlt, ← hc]; rfl)
                      have hxz : (s.extract i (i + 1)).size = 1 := by rw [← L_len, HX.out]; rfl
                      have hel := esc_len c
                      clear hcg hk hbb
                      go_upto_if 83 with fail
                      go_cut [10] from 73 to 129 (fun v10 wx => ∃ q2 : ByteArray, v10 = .string q2 ∧ q2.size ≤ 4 * (i + 1) ∧ L q ++ gB (c, k) = L q2 ∧ Below wr.heap.size wr wx)
                      case first =>
                        by_cases hk2 : k = 2
                        · subst hk2
                          have ha := fun wx => add_str q (T (esc c)) (by rw [T_size]; omega) wx
                          have HG : Hid (L q ++ gB (c, 2) = L (q ++ T (esc c))) := Lib.hid (by rw [L_add]; rfl)
                          have hz2 : (q ++ T (esc c)).size ≤ 4 * (i + 1) := by rw [ByteArray.size_append, T_size]; omega
                          go_wp2_with fail
                          refine (escape_any c b ei wr).mono ?_
                          rintro e w2 ⟨rfl, hb2⟩
                          go_wp2_with fail
                          go_meet
                          exact ⟨_, rfl, hz2, HG.out, hb2⟩
                        · have xk : ((k : Int) == 2) = false := beq_eq_false_iff_ne.2 (by omega)
                          have ha := fun wx => add_str q (s.extract i (i + 1)) (by omega) wx
                          have HG : Hid (L q ++ gB (c, k) = L (q ++ s.extract i (i + 1))) := Lib.hid (by
                            rw [L_add, HX.out]
                            unfold gB
                            rw [if_neg hk2])
                          have hz2 : (q ++ s.extract i (i + 1)).size ≤ 4 * (i + 1) := by rw [ByteArray.size_append]; omega
                          go_wp2_with fail
                          go_meet
                          exact ⟨_, rfl, hz2, HG.out, Below.refl _ _⟩
                      case rest =>
                        obtain ⟨q2, rfl, hz2, hq2, hbc⟩ := hcut
                        have HBc := Lib.hid (below_two HB.out hbc)
                        have HQ2 := Lib.hid hq2
                        clear hq2 hbc hck
                        have hck : wc.cell? ⟨g, i, none⟩ = some (.int .i64 (k : Int)) := by rw [HBc.out.cell (p := ⟨g, i, none⟩) (cell_lt HCG.out)]; exact HCG.out
                        go_upto_region 20 with fail
                        by_cases hend : i + 1 = s.size
                        · have xe : (((i : Int) + 1) == (s.size : Int)) = true := beq_iff_eq.2 (by omega)
                          have HBR : Hid (brk (isH (c, k)) (ts.drop (i + 1)) = true) := Lib.hid (by rw [hend, HZE.out]; rfl)
                          by_cases hk2 : k = 2
                          · subst hk2
                            have HI : Hid (isH (c, 2) = true) := Lib.hid rfl
                            have ha1 := fun wx => add_str ⟨#[36, 39]⟩ q2 (by rw [show (ByteArray.mk #[36, 39]).size = 2 from rfl]; omega) wx
                            have ha2 := fun wx => add_str (⟨#[36, 39]⟩ ++ q2) ⟨#[39]⟩ (by rw [ByteArray.size_append, show (ByteArray.mk #[36, 39]).size = 2 from rfl, show (ByteArray.mk #[39]).size = 1 from rfl]; omega) wx
                            have ha3 := fun wx => add_str p (⟨#[36, 39]⟩ ++ q2 ++ ⟨#[39]⟩) (by rw [ByteArray.size_append, ByteArray.size_append, show (ByteArray.mk #[36, 39]).size = 2 from rfl, show (ByteArray.mk #[39]).size = 1 from rfl]; omega) wx
                            go_quiet (fail)
                            go_wp2_with fail
                            go_roundw
                            case rel =>
                              refine ⟨i + 1, p ++ (⟨#[36, 39]⟩ ++ q2 ++ ⟨#[39]⟩), ⟨#[]⟩, by omega, by go_num, rfl, rfl, by show 0 ≤ _; omega, ?_, below_drewN HBc.out _⟩
                              rw [← HR.out, HD.out, rf3, HBR.out, if_pos rfl, HQ2.out, HI.out]
                              rw [L_add, L_add, L_add, List.append_assoc]
                              rfl
                            case measure => simp [intOf]; omega
                          · have xk : ((k : Int) == 2) = false := beq_eq_false_iff_ne.2 (by omega)
                            have HI : Hid (isH (c, k) = false) := Lib.hid (beq_eq_false_iff_ne.2 hk2)
                            clear hk2
                            have hal := always_any q2
                            have hbl := bt_len (L q2)
                            rw [L_len] at hbl
                            have ha3 := fun wx => add_str p (T (bt (L q2))) (by rw [T_size]; omega) wx
                            go_quiet (fail)
                            go_wp2_with fail
                            refine (hal _ (by omega)).mono ?_
                            rintro e w5 ⟨rfl, hw5⟩
                            rw [hw5]
                            clear hw5
                            go_wp2_with fail
                            go_roundw
                            case rel =>
                              refine ⟨i + 1, p ++ T (bt (L q2)), ⟨#[]⟩, by omega, by go_num, rfl, rfl, by show 0 ≤ _; omega, ?_, below_drewN HBc.out _⟩
                              rw [← HR.out, HD.out, rf3, HBR.out, if_pos rfl, HQ2.out, HI.out]
                              rw [L_add, L_T, List.append_assoc]
                              rfl
                            case measure => simp [intOf]; omega
                        · have xe : (((i : Int) + 1) == (s.size : Int)) = false := beq_eq_false_iff_ne.2 (by omega)
                          have hin : i + 1 < s.size := by omega
                          obtain ⟨g2, hg2, hcg2⟩ := HC.out (i + 1) (by omega)
                          obtain rfl : g = g2 := by injection hg2 with h; injection h
                          obtain ⟨k2, hkk2⟩ : ∃ k2, ks[i + 1]'(by omega) = k2 := ⟨_, rfl⟩
                          rw [hkk2] at hcg2
                          have hck2 : wc.cell? ⟨g, i + 1, none⟩ = some (.int .i64 (k2 : Int)) := by rw [HBc.out.cell (p := ⟨g, i + 1, none⟩) (cell_lt hcg2)]; exact hcg2
                          have HBR0 : Hid (brk (isH (c, k)) (ts.drop (i + 1)) = ((k2 == 2) != (k == 2))) := Lib.hid (by rw [HZ.out (i + 1) (by rw [L_len]; exact hin) (by omega), hkk2]; rfl)
                          clear hcg2 hg2 hkk2
                          have hi1 : (0 : Int) ≤ (i : Int) + 1 ∧ (i : Int) + 1 < (ks.length : Int) := by omega
                          by_cases hk2 : k = 2
                          · subst hk2
                            by_cases hkn : k2 = 2
                            · subst hkn
                              have HBR : Hid (brk (isH (c, 2)) (ts.drop (i + 1)) = false) := Lib.hid (by rw [HBR0.out]; rfl)
                              go_quiet (fail)
                              go_wp2_with fail
                              go_roundw
                              case rel =>
                                refine ⟨i + 1, p, q2, by omega, by go_num, rfl, rfl, by omega, ?_, below_drewN HBc.out _⟩
                                rw [← HR.out, HD.out, rf3, HBR.out, if_neg (by decide), ← HQ2.out]
                              case measure => simp [intOf]; omega
                            · have xk2 : ((k2 : Int) == 2) = false := beq_eq_false_iff_ne.2 (by omega)
                              have HBR : Hid (brk (isH (c, 2)) (ts.drop (i + 1)) = true) := Lib.hid (by rw [HBR0.out, beq_eq_false_iff_ne.2 hkn]; rfl)
                              have HI : Hid (isH (c, 2) = true) := Lib.hid rfl
                              clear hkn
                              have ha1 := fun wx => add_str ⟨#[36, 39]⟩ q2 (by rw [show (ByteArray.mk #[36, 39]).size = 2 from rfl]; omega) wx
                              have ha2 := fun wx => add_str (⟨#[36, 39]⟩ ++ q2) ⟨#[39]⟩ (by rw [ByteArray.size_append, show (ByteArray.mk #[36, 39]).size = 2 from rfl, show (ByteArray.mk #[39]).size = 1 from rfl]; omega) wx
                              have ha3 := fun wx => add_str p (⟨#[36, 39]⟩ ++ q2 ++ ⟨#[39]⟩) (by rw [ByteArray.size_append, ByteArray.size_append, show (ByteArray.mk #[36, 39]).size = 2 from rfl, show (ByteArray.mk #[39]).size = 1 from rfl]; omega) wx
                              go_quiet (fail)
                              go_wp2_with fail
                              go_roundw
                              case rel =>
                                refine ⟨i + 1, p ++ (⟨#[36, 39]⟩ ++ q2 ++ ⟨#[39]⟩), ⟨#[]⟩, by omega, by go_num, rfl, rfl, by show 0 ≤ _; omega, ?_, below_drewN HBc.out _⟩
                                rw [← HR.out, HD.out, rf3, HBR.out, if_pos rfl, HQ2.out, HI.out]
                                rw [L_add, L_add, L_add, List.append_assoc]
                                rfl
                              case measure => simp [intOf]; omega
                          · have xk : ((k : Int) == 2) = false := beq_eq_false_iff_ne.2 (by omega)
                            have HI : Hid (isH (c, k) = false) := Lib.hid (beq_eq_false_iff_ne.2 hk2)
                            by_cases hkn : k2 = 2
                            · subst hkn
                              have HBR : Hid (brk (isH (c, k)) (ts.drop (i + 1)) = true) := Lib.hid (by rw [HBR0.out, beq_eq_false_iff_ne.2 hk2]; rfl)
                              clear hk2
                              have hal := always_any q2
                              have hbl := bt_len (L q2)
                              rw [L_len] at hbl
                              have ha3 := fun wx => add_str p (T (bt (L q2))) (by rw [T_size]; omega) wx
                              go_quiet (fail)
                              go_wp2_with fail
                              refine (hal _ (by omega)).mono ?_
                              rintro e w5 ⟨rfl, hw5⟩
                              rw [hw5]
                              clear hw5
                              go_wp2_with fail
                              go_roundw
                              case rel =>
                                refine ⟨i + 1, p ++ T (bt (L q2)), ⟨#[]⟩, by omega, by go_num, rfl, rfl, by show 0 ≤ _; omega, ?_, below_drewN HBc.out _⟩
                                rw [← HR.out, HD.out, rf3, HBR.out, if_pos rfl, HQ2.out, HI.out]
                                rw [L_add, L_T, List.append_assoc]
                                rfl
                              case measure => simp [intOf]; omega
                            · have xk2 : ((k2 : Int) == 2) = false := beq_eq_false_iff_ne.2 (by omega)
                              have HBR : Hid (brk (isH (c, k)) (ts.drop (i + 1)) = false) := Lib.hid (by rw [HBR0.out, beq_eq_false_iff_ne.2 hkn, beq_eq_false_iff_ne.2 hk2]; rfl)
                              clear hk2 hkn
                              go_quiet (fail)
                              go_wp2_with fail
                              go_roundw
                              case rel =>
                                refine ⟨i + 1, p, q2, by omega, by go_num, rfl, rfl, by omega, ?_, below_drewN HBc.out _⟩
                                rw [← HR.out, HD.out, rf3, HBR.out, if_neg (by decide), ← HQ2.out]
                              case measure => simp [intOf]; omega
                    · obtain rfl : i = s.size := by omega
                      have HF2 : Hid (L p = strP (chunks (L s))) := Lib.hid (by
                        have := HR.out
                        rw [HZE.out] at this
                        rw [← HTS.out, ← this]
                        simp [rf3])
                      go_wp2_with fail
                      go_ret
                      refine ⟨?_, below_two HBk.out HB.out⟩
                      rw [HF.out]
                      exact ret_str (L_ext (by rw [HF2.out]; rfl))
            · have q3 : (style == 3) = false := beq_eq_false_iff_ne.2 h3
              by_cases h4 : style = 4
              · subst h4
                have HBS : Hid (rfB 34 (L s) ks = bsP 34 (L s)) := HB4
                have hbl := bsP_len 34 (L s)
                rw [L_len] at hbl
                go_wp2_with fail
                go_loopw [9, 12] (QRel3 s.size 34 (L s) ks wk) (fun _ v _ => s.size - (intOf v).toNat)
                case atStart => exact ⟨0, ⟨#[]⟩, Nat.zero_le _, rfl, rfl, rfl, Below.refl _ _⟩
                case round =>
                  obtain ⟨i, p, hi, rfl, rfl, hr, hb⟩ := hrel
                  have HB := Lib.hid hb
                  have HR := Lib.hid hr
                  clear hb hr
                  have hpz : p.size ≤ 4 * s.size := by
                    have := congrArg List.length HR.out
                    rw [HBS.out, List.length_append, L_len] at this
                    omega
                  by_cases hlt : i < s.size
                  · have hll : i < (L s).length := by rw [L_len]; exact hlt
                    have ei := get_nth' s i hlt
                    obtain ⟨b, hbb⟩ : ∃ b, nth (L s) i = b := ⟨_, rfl⟩
                    rw [hbb] at ei
                    obtain ⟨c, hc⟩ : ∃ c, s[i]'hlt = c := ⟨_, rfl⟩
                    rw [hc] at ei
                    have hb256 : b < 256 := by rw [← ei]; exact c.toNat_lt
                    obtain ⟨g, rfl, hcg⟩ := HC.out i (by omega)
                    obtain ⟨k, hk⟩ : ∃ k, ks[i]'(by omega) = k := ⟨_, rfl⟩
                    rw [hk] at hcg
                    have hck : wr.cell? ⟨g, i, none⟩ = some (.int .i64 (k : Int)) := by rw [HB.out.cell (p := ⟨g, i, none⟩) (cell_lt hcg)]; exact hcg
                    have HX : Hid (L (s.extract i (i + 1)) = [c]) := Lib.hid (by rw [one_byte s i hlt, ← hc]; rfl)
                    have hxz : (s.extract i (i + 1)).size = 1 := by rw [← L_len, HX.out]; rfl
                    have HS : Hid (∀ r : Bytes, bsB 34 c k = r → (L p ++ r) ++ rfB 34 ((L s).drop (i + 1)) (ks.drop (i + 1)) = rfB 34 (L s) ks) := Lib.hid (fun r hr => by
                      rw [← HR.out, drop_cons hll, ks_drop ks i (by omega), hk, ← hr, List.append_assoc]
                      have : (L s)[i]'hll = c := by rw [← hc]; rfl
                      rw [this]
                      rfl)
                    have hc92 : Hid ((c = 92) ↔ b = 92) := Lib.hid (by rw [← UInt8.toNat_inj, ei]; rfl)
                    have hcsg : Hid ((c = 34) ↔ b = 34) := Lib.hid (by rw [← UInt8.toNat_inj, ei]; rfl)
                    clear hcg hk hbb
                    by_cases hk2 : k = 2
                    · subst hk2
                      have HQ := Lib.hid (HS.out (esc c) (by unfold bsB; rw [if_pos rfl]))
                      have hel := esc_len c
                      have ha := fun wx => add_str p (T (esc c)) (by rw [T_size]; omega) wx
                      go_wp2_with fail
                      refine (escape_any c b ei wr).mono ?_
                      rintro e w2 ⟨rfl, hb2⟩
                      have HB2 := Lib.hid (below_two HB.out hb2)
                      clear hb2
                      go_wp2_with fail
                      go_roundw
                      case rel => exact ⟨i + 1, p ++ T (esc c), by omega, by go_num, rfl, by rw [L_add, L_T]; exact HQ.out, HB2.out⟩
                      case measure => simp [intOf]; omega
                    · have xk : ((k : Int) == 2) = false := beq_eq_false_iff_ne.2 (by omega)
                      have ha0 := fun wx => add_str p (s.extract i (i + 1)) (by omega) wx
                      have h921 : (ByteArray.mk #[92]).size = 1 := rfl
                      have ha1 := fun wx => add_str p ⟨#[92]⟩ (by omega) wx
                      have ha2 := fun wx => add_str (p ++ ⟨#[92]⟩) (s.extract i (i + 1)) (by rw [ByteArray.size_append]; omega) wx
                      by_cases hsp : b = 92 ∨ b = 34
                      · have HQ := Lib.hid (HS.out [92, c] (by unfold bsB; rw [if_neg hk2, if_pos (by rw [hc92.out, hcsg.out]; exact hsp)]))
                        have fin : Hid (L (p ++ ⟨#[92]⟩ ++ s.extract i (i + 1)) ++ rfB 34 ((L s).drop (i + 1)) (ks.drop (i + 1)) = rfB 34 (L s) ks) := Lib.hid (by
                          rw [← HQ.out, L_add, L_add, HX.out]
                          (simp; rfl))
                        by_cases h92 : b = 92
                        · have x92 : ((b : Int) == 92) = true := by rw [h92]; rfl
                          clear h92 hsp hk2
                          go_wp2_with fail
                          go_roundw
                          case rel => exact ⟨i + 1, _, by omega, by go_num, rfl, fin.out, HB.out⟩
                          case measure => simp [intOf]; omega
                        · have x92 : ((b : Int) == 92) = false := beq_eq_false_iff_ne.2 (by omega)
                          have xs1 : ((b : Int) == 34) = true := beq_iff_eq.2 (by omega)
                          have xs2 : ((b : Int) == 32) = false := beq_eq_false_iff_ne.2 (by omega)
                          clear h92 hsp hk2
                          go_wp2_with fail
                          go_roundw
                          case rel => exact ⟨i + 1, _, by omega, by go_num, rfl, fin.out, HB.out⟩
                          case measure => simp [intOf]; omega
                      · have HQ := Lib.hid (HS.out [c] (by unfold bsB; rw [if_neg hk2, if_neg (by rw [hc92.out, hcsg.out]; exact hsp)]))
                        have fin : Hid (L (p ++ s.extract i (i + 1)) ++ rfB 34 ((L s).drop (i + 1)) (ks.drop (i + 1)) = rfB 34 (L s) ks) := Lib.hid (by
                          rw [← HQ.out, L_add, HX.out])
                        have x92 : ((b : Int) == 92) = false := beq_eq_false_iff_ne.2 (by omega)
                        have xs1 : ((b : Int) == 34) = false := beq_eq_false_iff_ne.2 (by omega)
                        by_cases ho : b = 32
                        · have xo : ((b : Int) == 32) = true := by rw [ho]; rfl
                          clear ho hsp hk2
                          go_wp2_with fail
                          go_roundw
                          case rel => exact ⟨i + 1, _, by omega, by go_num, rfl, fin.out, HB.out⟩
                          case measure => simp [intOf]; omega
                        · have xo : ((b : Int) == 32) = false := beq_eq_false_iff_ne.2 (by omega)
                          clear ho hsp hk2
                          go_wp2_with fail
                          go_roundw
                          case rel => exact ⟨i + 1, _, by omega, by go_num, rfl, fin.out, HB.out⟩
                          case measure => simp [intOf]; omega
                  · have h0 : (L s).drop i = [] := List.drop_eq_nil_of_le (by rw [L_len]; omega)
                    have HF2 : Hid (L p = bsP 34 (L s)) := Lib.hid (by
                      have := HR.out
                      rw [h0] at this
                      rw [← HBS.out, ← this]
                      simp [rfB])
                    have h341 : (ByteArray.mk #[34]).size = 1 := rfl
                    have ha1 := fun wx => add_str ⟨#[34]⟩ p (by omega) wx
                    have ha2 := fun wx => add_str (⟨#[34]⟩ ++ p) ⟨#[34]⟩ (by rw [ByteArray.size_append]; omega) wx
                    go_wp2_with fail
                    go_ret
                    refine ⟨?_, below_two HBk.out HB.out⟩
                    refine ret_str (L_ext ?_)
                    rw [L_add, L_add, HF2.out]
                    rfl
              · have q4 : (style == 4) = false := beq_eq_false_iff_ne.2 h4
                have q4' : (style != 4) = true := by rw [bne, q4]; rfl
                by_cases h5 : style = 5
                · subst h5
                  have HBS : Hid (rfB 32 (L s) ks = bsP 32 (L s)) := HB5
                  have hbl := bsP_len 32 (L s)
                  rw [L_len] at hbl
                  go_wp2_with fail
                  go_loopw [9, 12] (QRel3 s.size 32 (L s) ks wk) (fun _ v _ => s.size - (intOf v).toNat)
                  case atStart => exact ⟨0, ⟨#[]⟩, Nat.zero_le _, rfl, rfl, rfl, Below.refl _ _⟩
                  case round =>
                    obtain ⟨i, p, hi, rfl, rfl, hr, hb⟩ := hrel
                    have HB := Lib.hid hb
                    have HR := Lib.hid hr
                    clear hb hr
                    have hpz : p.size ≤ 4 * s.size := by
                      have := congrArg List.length HR.out
                      rw [HBS.out, List.length_append, L_len] at this
                      omega
                    by_cases hlt : i < s.size
                    · have hll : i < (L s).length := by rw [L_len]; exact hlt
                      have ei := get_nth' s i hlt
                      obtain ⟨b, hbb⟩ : ∃ b, nth (L s) i = b := ⟨_, rfl⟩
                      rw [hbb] at ei
                      obtain ⟨c, hc⟩ : ∃ c, s[i]'hlt = c := ⟨_, rfl⟩
                      rw [hc] at ei
                      have hb256 : b < 256 := by rw [← ei]; exact c.toNat_lt
                      obtain ⟨g, rfl, hcg⟩ := HC.out i (by omega)
                      obtain ⟨k, hk⟩ : ∃ k, ks[i]'(by omega) = k := ⟨_, rfl⟩
                      rw [hk] at hcg
                      have hck : wr.cell? ⟨g, i, none⟩ = some (.int .i64 (k : Int)) := by rw [HB.out.cell (p := ⟨g, i, none⟩) (cell_lt hcg)]; exact hcg
                      have HX : Hid (L (s.extract i (i + 1)) = [c]) := Lib.hid (by rw [one_byte s i hlt, ← hc]; rfl)
                      have hxz : (s.extract i (i + 1)).size = 1 := by rw [← L_len, HX.out]; rfl
                      have HS : Hid (∀ r : Bytes, bsB 32 c k = r → (L p ++ r) ++ rfB 32 ((L s).drop (i + 1)) (ks.drop (i + 1)) = rfB 32 (L s) ks) := Lib.hid (fun r hr => by
                        rw [← HR.out, drop_cons hll, ks_drop ks i (by omega), hk, ← hr, List.append_assoc]
                        have : (L s)[i]'hll = c := by rw [← hc]; rfl
                        rw [this]
                        rfl)
                      have hc92 : Hid ((c = 92) ↔ b = 92) := Lib.hid (by rw [← UInt8.toNat_inj, ei]; rfl)
                      have hcsg : Hid ((c = 32) ↔ b = 32) := Lib.hid (by rw [← UInt8.toNat_inj, ei]; rfl)
                      clear hcg hk hbb
                      by_cases hk2 : k = 2
                      · subst hk2
                        have HQ := Lib.hid (HS.out (esc c) (by unfold bsB; rw [if_pos rfl]))
                        have hel := esc_len c
                        have ha := fun wx => add_str p (T (esc c)) (by rw [T_size]; omega) wx
                        go_wp2_with fail
                        refine (escape_any c b ei wr).mono ?_
                        rintro e w2 ⟨rfl, hb2⟩
                        have HB2 := Lib.hid (below_two HB.out hb2)
                        clear hb2
                        go_wp2_with fail
                        go_roundw
                        case rel => exact ⟨i + 1, p ++ T (esc c), by omega, by go_num, rfl, by rw [L_add, L_T]; exact HQ.out, HB2.out⟩
                        case measure => simp [intOf]; omega
                      · have xk : ((k : Int) == 2) = false := beq_eq_false_iff_ne.2 (by omega)
                        have ha0 := fun wx => add_str p (s.extract i (i + 1)) (by omega) wx
                        have h921 : (ByteArray.mk #[92]).size = 1 := rfl
                        have ha1 := fun wx => add_str p ⟨#[92]⟩ (by omega) wx
                        have ha2 := fun wx => add_str (p ++ ⟨#[92]⟩) (s.extract i (i + 1)) (by rw [ByteArray.size_append]; omega) wx
                        by_cases hsp : b = 92 ∨ b = 32
                        · have HQ := Lib.hid (HS.out [92, c] (by unfold bsB; rw [if_neg hk2, if_pos (by rw [hc92.out, hcsg.out]; exact hsp)]))
                          have fin : Hid (L (p ++ ⟨#[92]⟩ ++ s.extract i (i + 1)) ++ rfB 32 ((L s).drop (i + 1)) (ks.drop (i + 1)) = rfB 32 (L s) ks) := Lib.hid (by
                            rw [← HQ.out, L_add, L_add, HX.out]
                            (simp; rfl))
                          by_cases h92 : b = 92
                          · have x92 : ((b : Int) == 92) = true := by rw [h92]; rfl
                            clear h92 hsp hk2
                            go_wp2_with fail
                            go_roundw
                            case rel => exact ⟨i + 1, _, by omega, by go_num, rfl, fin.out, HB.out⟩
                            case measure => simp [intOf]; omega
                          · have x92 : ((b : Int) == 92) = false := beq_eq_false_iff_ne.2 (by omega)
                            have xs1 : ((b : Int) == 32) = true := beq_iff_eq.2 (by omega)
                            have xs2 : ((b : Int) == 34) = false := beq_eq_false_iff_ne.2 (by omega)
                            clear h92 hsp hk2
                            go_wp2_with fail
                            go_roundw
                            case rel => exact ⟨i + 1, _, by omega, by go_num, rfl, fin.out, HB.out⟩
                            case measure => simp [intOf]; omega
                        · have HQ := Lib.hid (HS.out [c] (by unfold bsB; rw [if_neg hk2, if_neg (by rw [hc92.out, hcsg.out]; exact hsp)]))
                          have fin : Hid (L (p ++ s.extract i (i + 1)) ++ rfB 32 ((L s).drop (i + 1)) (ks.drop (i + 1)) = rfB 32 (L s) ks) := Lib.hid (by
                            rw [← HQ.out, L_add, HX.out])
                          have x92 : ((b : Int) == 92) = false := beq_eq_false_iff_ne.2 (by omega)
                          have xs1 : ((b : Int) == 32) = false := beq_eq_false_iff_ne.2 (by omega)
                          by_cases ho : b = 34
                          · have xo : ((b : Int) == 34) = true := by rw [ho]; rfl
                            clear ho hsp hk2
                            go_wp2_with fail
                            go_roundw
                            case rel => exact ⟨i + 1, _, by omega, by go_num, rfl, fin.out, HB.out⟩
                            case measure => simp [intOf]; omega
                          · have xo : ((b : Int) == 34) = false := beq_eq_false_iff_ne.2 (by omega)
                            clear ho hsp hk2
                            go_wp2_with fail
                            go_roundw
                            case rel => exact ⟨i + 1, _, by omega, by go_num, rfl, fin.out, HB.out⟩
                            case measure => simp [intOf]; omega
                    · have h0 : (L s).drop i = [] := List.drop_eq_nil_of_le (by rw [L_len]; omega)
                      have HF2 : Hid (L p = bsP 32 (L s)) := Lib.hid (by
                        have := HR.out
                        rw [h0] at this
                        rw [← HBS.out, ← this]
                        simp [rfB])
                      go_wp2_with fail
                      go_ret
                      refine ⟨?_, below_two HBk.out HB.out⟩
                      refine ret_str (L_ext ?_)
                      rw [HF2.out]
                      rfl
                · have HF : Hid (quoteP style (L s) = []) := Lib.hid (by unfold quoteP; rw [if_neg h0, if_neg h1, if_neg h2, if_neg h3, if_neg h4, if_neg h5])
                  have q5 : (style == 5) = false := beq_eq_false_iff_ne.2 h5
                  have q5' : (style != 5) = true := by rw [bne, q5]; rfl
                  go_wp2_with fail
                  go_ret
                  exact ⟨by rw [HF.out]; rfl, HBk.out⟩
end Go.Proofs.YtigkdehaepenhaaGreatDoor.Q
