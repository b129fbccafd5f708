/-
  What the reference's Shell returns: what a shell reads. Conditions: the text has at most 1000000 bytes.
-/
import Derived.Test.YtlilnljneakngaaDoorQOne
import Derived.Test.YtlilnljneakngaaDoorQShell
import Derived.Test.YtlilnljneakngaaDoorQClean
set_option linter.unusedVariables false
namespace Go.Proofs.YtlilnljneakngaaDoor
open Go.RowKit

/-- Where the reference's reader stands. -/
def At (l : Bytes) (ks : List Nat) (i st : Nat) (out : Bytes) : Prop :=
  (st = 0 ∧ ∃ m, Z0 l ks i m ∧ (sh 0 (l.drop (i + m))).map (out ++ (l.drop i).take m ++ ·) = sh 0 l) ∨
  (st = 1 ∧ (sh 1 (l.drop i)).map (out ++ ·) = sh 0 l) ∨ (st = 2 ∧ (sh 2 (l.drop i)).map (out ++ ·) = sh 0 l)
def RefSRel (s : ByteArray) (ks : List Nat) (w : World) (v4 v6 v7 : Value) (w' : World) : Prop :=
  ∃ (i st : Nat) (out : Bytes), i ≤ s.size ∧ v7 = .int .i64 (i : Int) ∧ v6 = .int .i64 (st : Int) ∧ Own w v4 out w' ∧ out.length ≤ i ∧ At (L s) ks i st out
theorem map_nil (o : Option Bytes) (out : Bytes) : o.map (out ++ [] ++ ·) = o.map (out ++ ·) := by rw [List.append_nil]
theorem at0 {l : Bytes} {ks : List Nat} {i : Nat} {out : Bytes} (hz : Z0 l ks i 0) (h : (sh 0 (l.drop i)).map (out ++ ·) = sh 0 l) : At l ks i 0 out := by
  left
  refine ⟨rfl, 0, hz, ?_⟩
  rw [List.take_zero, map_nil, Nat.add_zero]
  exact h
theorem at_mid {l : Bytes} {ks : List Nat} {i m : Nat} {out : Bytes} {c : UInt8} (hl : i < l.length) (hc : l[i]'hl = c) (hz : Z0 l ks (i + 1) m) (h : (sh 0 (l.drop (i + (m + 1)))).map (out ++ (l.drop i).take (m + 1) ++ ·) = sh 0 l) : At l ks (i + 1) 0 (out ++ [c]) := by
  left
  refine ⟨rfl, m, hz, ?_⟩
  rw [← h, show i + 1 + m = i + (m + 1) by omega, drop_cons hl, List.take_succ_cons, hc, List.append_assoc]
  rfl
theorem at_char {l : Bytes} {ks : List Nat} {i : Nat} {out : Bytes} {c : UInt8} (hl : i < l.length) (hc : l[i]'hl = c) (hz : Z0 l ks (i + 1) (sz (l.drop i) - 1)) (h : (sh 0 (l.drop i)).map (out ++ ·) = sh 0 l)
    (hs : sh 0 (l.drop i) = (sh 0 ((l.drop i).drop (sz (l.drop i)))).map ((l.drop i).take (sz (l.drop i)) ++ ·)) : At l ks (i + 1) 0 (out ++ [c]) := by
  have hb := sz_bd (l.drop i)
  obtain ⟨K, hK⟩ : ∃ K, sz (l.drop i) = K + 1 := ⟨sz (l.drop i) - 1, by omega⟩
  rw [hK] at hz hs
  refine at_mid hl hc (m := K) (by simpa using hz) ?_
  rw [← h, hs, map_more2, List.drop_drop]

set_option maxHeartbeats 8000000 in
set_option maxRecDepth 100000 in
theorem refShell_any (s : ByteArray) (w : World) (hs : s.size ≤ 1000000) :
    Calls Tryd.prog 12 #[.string s] w fun e w' => e = .returned (.tuple #[.string (T (ansT (shP (L s)))), .bool (ansB (shP (L s)))]) ∧ Below w.heap.size w w' := by
  have cK := kinds_any s w hs
  have hkl := kindsP_len (L s)
  rw [L_len] at hkl
  have HZ0 := Lib.hid (z_start (L s))
  have HAL : Hid (∀ i, i < (L s).length → nth (L s) i < 128 → Z0 (L s) (kindsP (L s)) (i + 1) 0) := Lib.hid (fun i h1 h2 => z_align h1 h2)
  obtain ⟨ks, hks⟩ : ∃ ks, kindsP (L s) = ks := ⟨_, rfl⟩
  rw [hks] at cK hkl HZ0 HAL
  clear hks
  go_enter Tryd.func12, Tryd.ntmps12
  go_wp2_with fail
  refine cK.mono ?_
  rintro e wk ⟨v, rfl, hown⟩
  obtain ⟨a, cap, rfl, hcell⟩ := hown.form
  have HBk := Lib.hid hown.below
  have HC := Lib.hid hcell
  clear hown hcell cK
  go_wp2_with fail
  go_loopw [4, 6, 7] (RefSRel s ks wk) (fun _ _ v _ => s.size - (intOf v).toNat)
  case atStart => exact ⟨0, 0, [], Nat.zero_le _, rfl, rfl, Own.none wk, Nat.le_refl _, at0 HZ0.out (by rw [List.drop_zero]; simp)⟩
  case round =>
    obtain ⟨i, st, out, hi, rfl, rfl, hown, hol, hat⟩ := hrel
    have HO := Lib.hid hown
    have HBO : Hid (Below w.heap.size w wr) := Lib.hid (below_two HBk.out hown.below)
    clear hown
    by_cases hlt : i < s.size
    · have hll : i < (L s).length := by rw [L_len]; exact hlt
      have ei := get_nth' s i hlt
      obtain ⟨b, hb⟩ : ∃ b, nth (L s) i = b := ⟨_, rfl⟩
      rw [hb] at ei
      obtain ⟨c, hc⟩ : ∃ c, s[i]'hlt = c := ⟨_, rfl⟩
      rw [hc] at ei
      have HCc : Hid ((L s)[i]'hll = c) := Lib.hid (by rw [← hc]; rfl)
      obtain ⟨nx, hnx⟩ : ∃ nx, nth (L s) (i + 1) = nx := ⟨_, rfl⟩
      obtain ⟨g, rfl, hcg⟩ := HC.out i (by omega)
      have hck : wr.cell? ⟨g, i, none⟩ = some (.int .i64 ((ks[i]'(by omega) : Nat) : Int)) := by rw [HO.out.below.cell (p := ⟨g, i, none⟩) (cell_lt hcg)]; exact hcg
      clear hcg
      obtain ⟨k, hk⟩ : ∃ k, ks[i]'(by omega) = k := ⟨_, rfl⟩
      rw [hk] at hck
      have hb256 : b < 256 := by rw [← ei]; exact c.toNat_lt
      have hne := Lib.hid (drop_ne hll)
      have N0 : Hid (nth ((L s).drop i) 0 = b) := Lib.hid (by rw [nth_drop, Nat.add_zero, hb])
      have N1 : Hid (nth ((L s).drop i) 1 = nx) := Lib.hid (by rw [nth_drop, hnx])
      have HB := Lib.hid hb
      have HNX := Lib.hid hnx
      clear hb
      go_upto_if 27 with fail
      go_cut [9] from 14 to 96 (fun v9 wx => v9 = .int .u8 (nx : Int) ∧ wr = wx)
      case first =>
        by_cases hin : i + 1 < s.size
        · have ej := get_nth' s (i + 1) hin
          rw [hnx] at ej
          clear hnx
          go_wp2_with fail
          go_meet
          exact ⟨rfl, rfl⟩
        · have h0 : nx = 0 := by rw [← hnx]; exact nth_beyond (by rw [L_len]; omega)
          clear hnx
          subst h0
          go_wp2_with fail
          go_meet
          exact ⟨rfl, rfl⟩
      case rest =>
        obtain ⟨rfl, rfl⟩ := hcut
        clear hnx
        rcases hat with ⟨rfl, m, hz, hr⟩ | ⟨rfl, hr⟩ | ⟨rfl, hr⟩
        · cases m with
          | succ m =>
            obtain ⟨q1, q2, q3⟩ := z_mid hz (by omega) hll
            rw [hk] at q1
            rw [HB.out] at q2
            have x39 : ((b : Int) == 39) = false := beq_eq_false_iff_ne.2 (by omega)
            have x36 : ((b : Int) == 36) = false := beq_eq_false_iff_ne.2 (by omega)
            have x92 : ((b : Int) == 92) = false := beq_eq_false_iff_ne.2 (by omega)
            have HA := Lib.hid (at_mid hll HCc.out q3 hr)
            subst q1
            clear hz hr q2 q3 hk
            go_wp2_with (at_builtin; refine app_byte (v := u4) (out := out) rfl _ _ rfl wk rfl c (by rw [ei]) HO.out rfl (by omega) ?_)
            intro v' w3 hown
            have HO2 := Lib.hid hown
            clear hown
            go_wp2_with fail
            go_roundw
            case rel => exact ⟨i + 1, 0, out ++ [c], by omega, by go_num, rfl, HO2.out, by first | (rw [List.length_append]; simp only [List.length_cons, List.length_nil]; omega) | omega, HA.out⟩
            case measure => simp [intOf]; omega
          | zero =>
            obtain ⟨q1, q2⟩ := z_char hz (by omega) hll
            rw [hk] at q1
            have HE : Hid ((sh 0 ((L s).drop i)).map (out ++ ·) = sh 0 (L s)) := Lib.hid (by rw [List.take_zero, map_nil, Nat.add_zero] at hr; exact hr)
            clear hr hz
            by_cases h39 : b = 39
            · have x39 : ((b : Int) == 39) = true := by rw [h39]; rfl
              have HA : Hid (At (L s) ks (i + 1) 1 out) := Lib.hid (.inr (.inl ⟨rfl, by rw [← HE.out, sh0_q (by rw [N0.out, h39]), List.drop_drop]⟩))
              clear h39 q1 q2 hk
              go_wp2_with fail
              go_roundw
              case rel => exact ⟨i + 1, 1, out, by omega, by go_num, rfl, HO.out, by first | (rw [List.length_append]; simp only [List.length_cons, List.length_nil]; omega) | omega, HA.out⟩
              case measure => simp [intOf]; omega
            · have x39 : ((b : Int) == 39) = false := beq_eq_false_iff_ne.2 (by omega)
              by_cases h36 : b = 36
              · have x36 : ((b : Int) == 36) = true := by rw [h36]; rfl
                have x92 : ((b : Int) == 92) = false := beq_eq_false_iff_ne.2 (by omega)
                by_cases hn : nx = 39
                · have xn : ((nx : Int) == 39) = true := by rw [hn]; rfl
                  have hin : i + 1 < s.size := by have := nth_in (l := L s) (i := i + 1) (by rw [HNX.out]; omega); rw [L_len] at this; exact this
                  have HA : Hid (At (L s) ks (i + 2) 2 out) := Lib.hid (.inr (.inr ⟨rfl, by rw [← HE.out, sh0_d (by rw [N0.out, h36]) (by rw [N1.out, hn]), List.drop_drop]⟩))
                  clear h39 h36 hn q1 q2 hk
                  go_wp2_with fail
                  go_roundw
                  case rel => exact ⟨i + 2, 2, out, by omega, by go_num, rfl, HO.out, by first | (rw [List.length_append]; simp only [List.length_cons, List.length_nil]; omega) | omega, HA.out⟩
                  case measure => simp [intOf]; omega
                · have xn : ((nx : Int) == 39) = false := beq_eq_false_iff_ne.2 (by omega)
                  have hk1 : k ≠ 1 ∧ sh 0 ((L s).drop i) = none := by
                    have e : kc (((L s).drop i).take (sz ((L s).drop i))) ≠ 0 := fun e => (plain_no hne.out e).2.2 (by rw [N0.out, h36])
                    exact ⟨fun h => e (rk_plain.1 (by rw [← q1, h])), sh0_x hne.out (by rw [N0.out]; omega) (by rw [N0.out]; omega) (by rw [N0.out, N1.out]; omega) e⟩
                  have xk : ((k : Int) == 1) = false := beq_eq_false_iff_ne.2 (by omega)
                  have HN : Hid (shP (L s) = none) := Lib.hid (by
                    unfold shP
                    split
                    · rfl
                    · rw [← HE.out, hk1.2]; rfl)
                  clear h39 h36 hn q1 q2 hk hk1
                  go_wp2_with fail
                  go_ret2
                  exact ⟨ret_none HN.out, HBO.out⟩
              · have x36 : ((b : Int) == 36) = false := beq_eq_false_iff_ne.2 (by omega)
                by_cases h92 : b = 92
                · have x92 : ((b : Int) == 92) = true := by rw [h92]; rfl
                  by_cases hn : nx = 39
                  · have xn : ((nx : Int) == 39) = true := by rw [hn]; rfl
                    have hin : i + 1 < s.size := by have := nth_in (l := L s) (i := i + 1) (by rw [HNX.out]; omega); rw [L_len] at this; exact this
                    have HA : Hid (At (L s) ks (i + 2) 0 (out ++ [39])) := Lib.hid (at0 (HAL.out (i + 1) (by rw [L_len]; exact hin) (by rw [HNX.out]; omega)) (by rw [← HE.out, sh0_b (l := (L s).drop i) (by rw [N0.out, h92]) (by rw [N1.out, hn]), map_more, List.drop_drop]))
                    clear h39 h36 h92 hn q1 q2 hk
                    go_wp2_with (at_builtin; refine app_byte (v := u4) (out := out) rfl _ _ rfl wk rfl 39 rfl HO.out rfl (by omega) ?_)
                    intro v' w3 hown
                    have HO2 := Lib.hid hown
                    clear hown
                    go_wp2_with fail
                    go_roundw
                    case rel => exact ⟨i + 2, 0, out ++ [39], by omega, by go_num, rfl, HO2.out, by first | (rw [List.length_append]; simp only [List.length_cons, List.length_nil]; omega) | omega, HA.out⟩
                    case measure => simp [intOf]; omega
                  · have xn : ((nx : Int) == 39) = false := beq_eq_false_iff_ne.2 (by omega)
                    have hk1 : k ≠ 1 ∧ sh 0 ((L s).drop i) = none := by
                      have e : kc (((L s).drop i).take (sz ((L s).drop i))) ≠ 0 := fun e => (plain_no hne.out e).2.1 (by rw [N0.out, h92])
                      exact ⟨fun h => e (rk_plain.1 (by rw [← q1, h])), sh0_x hne.out (by rw [N0.out]; omega) (by rw [N0.out, N1.out]; omega) (by rw [N0.out]; omega) e⟩
                    have xk : ((k : Int) == 1) = false := beq_eq_false_iff_ne.2 (by omega)
                    have HN : Hid (shP (L s) = none) := Lib.hid (by
                      unfold shP
                      split
                      · rfl
                      · rw [← HE.out, hk1.2]; rfl)
                    clear h39 h36 h92 hn q1 q2 hk hk1
                    go_wp2_with fail
                    go_ret2
                    exact ⟨ret_none HN.out, HBO.out⟩
                · have x92 : ((b : Int) == 92) = false := beq_eq_false_iff_ne.2 (by omega)
                  by_cases hk1 : k = 1
                  · have HA : Hid (At (L s) ks (i + 1) 0 (out ++ [c])) := Lib.hid (at_char hll HCc.out (q2 (by rw [← q1, hk1])) HE.out (sh0_p hne.out (by rw [N0.out]; exact h39) (by rw [N0.out]; omega) (by rw [N0.out]; omega) (rk_plain.1 (by rw [← q1, hk1]))))
                    subst hk1
                    clear h39 h36 h92 q1 q2 hk
                    go_wp2_with (at_builtin; refine app_byte (v := u4) (out := out) rfl _ _ rfl wk rfl c (by rw [ei]) HO.out rfl (by omega) ?_)
                    intro v' w3 hown
                    have HO2 := Lib.hid hown
                    clear hown
                    go_wp2_with fail
                    go_roundw
                    case rel => exact ⟨i + 1, 0, out ++ [c], by omega, by go_num, rfl, HO2.out, by first | (rw [List.length_append]; simp only [List.length_cons, List.length_nil]; omega) | omega, HA.out⟩
                    case measure => simp [intOf]; omega
                  · have xk : ((k : Int) == 1) = false := beq_eq_false_iff_ne.2 (by omega)
                    have HN : Hid (shP (L s) = none) := Lib.hid (by
                      unfold shP
                      split
                      · rfl
                      · rw [← HE.out, sh0_x hne.out (by rw [N0.out]; exact h39) (by rw [N0.out]; omega) (by rw [N0.out]; omega) (fun e => hk1 (by rw [q1]; exact rk_plain.2 e))]; rfl)
                    clear h39 h36 h92 q1 q2 hk hk1
                    go_wp2_with fail
                    go_ret2
                    exact ⟨ret_none HN.out, HBO.out⟩
        · by_cases h39 : b = 39
          · have x39 : ((b : Int) == 39) = true := by rw [h39]; rfl
            have HA : Hid (At (L s) ks (i + 1) 0 out) := Lib.hid (at0 (HAL.out i hll (by rw [HB.out]; omega)) (by rw [← hr, sh1_q (by rw [N0.out, h39]), List.drop_drop]))
            clear h39 hr hk
            go_wp2_with fail
            go_roundw
            case rel => exact ⟨i + 1, 0, out, by omega, by go_num, rfl, HO.out, by first | (rw [List.length_append]; simp only [List.length_cons, List.length_nil]; omega) | omega, HA.out⟩
            case measure => simp [intOf]; omega
          · have x39 : ((b : Int) == 39) = false := beq_eq_false_iff_ne.2 (by omega)
            have HA : Hid (At (L s) ks (i + 1) 1 (out ++ [c])) := Lib.hid (.inr (.inl ⟨rfl, by rw [← hr, sh1_c hne.out (by rw [N0.out]; exact h39), map_more, List.drop_drop, drop_cons hll, HCc.out]; rfl⟩))
            clear h39 hr hk
            go_wp2_with (at_builtin; refine app_byte (v := u4) (out := out) rfl _ _ rfl wk rfl c (by rw [ei]) HO.out rfl (by omega) ?_)
            intro v' w3 hown
            have HO2 := Lib.hid hown
            clear hown
            go_wp2_with fail
            go_roundw
            case rel => exact ⟨i + 1, 1, out ++ [c], by omega, by go_num, rfl, HO2.out, by first | (rw [List.length_append]; simp only [List.length_cons, List.length_nil]; omega) | omega, HA.out⟩
            case measure => simp [intOf]; omega
        · by_cases h39 : b = 39
          · have x39 : ((b : Int) == 39) = true := by rw [h39]; rfl
            have HA : Hid (At (L s) ks (i + 1) 0 out) := Lib.hid (at0 (HAL.out i hll (by rw [HB.out]; omega)) (by rw [← hr, sh2_q (by rw [N0.out, h39]), List.drop_drop]))
            clear h39 hr hk
            go_wp2_with fail
            go_roundw
            case rel => exact ⟨i + 1, 0, out, by omega, by go_num, rfl, HO.out, by first | (rw [List.length_append]; simp only [List.length_cons, List.length_nil]; omega) | omega, HA.out⟩
            case measure => simp [intOf]; omega
          · have x39 : ((b : Int) == 39) = false := beq_eq_false_iff_ne.2 (by omega)
            have c1 := fun wx => one_any s (i + 1) wx (by omega) (by omega)
            have hle := on_le ((L s).drop (i + 1))
            rw [List.length_drop, L_len] at hle
            obtain ⟨c2, hc2⟩ : ∃ c2, (onP ((L s).drop (i + 1))).1 = c2 := ⟨_, rfl⟩
            obtain ⟨q, hq⟩ : ∃ q, (onP ((L s).drop (i + 1))).2 = q := ⟨_, rfl⟩
            obtain ⟨cn, hcn⟩ : ∃ cn, c2.toNat = cn := ⟨_, rfl⟩
            have c1' : ∀ wx, Calls Tryd.prog 27 #[.string s, .int .i64 ((i : Int) + 1)] wx fun e w' => e = .returned (.tuple #[.int .u8 (cn : Int), .int .i64 (q : Int)]) ∧ w' = wx := fun wx => by
              have h := c1 wx
              rw [hc2, hq, hcn] at h
              exact h
            rw [hq] at hle
            by_cases h92 : b = 92
            · have x92 : ((b : Int) != 92) = false := by rw [h92]; rfl
              obtain ⟨e1, e2⟩ := rdE_on (m := (L s).drop i) (by rw [N0.out, h92])
              rw [List.drop_drop, hc2] at e1
              rw [List.drop_drop, hq] at e2
              by_cases hq0 : q = 0
              · have HN : Hid (shP (L s) = none) := Lib.hid (by
                  unfold shP
                  split
                  · rfl
                  · rw [← hr, sh2_x (by rw [N0.out]; exact h39) (by rw [e2, if_pos hq0])]; rfl)
                subst hq0
                clear h39 h92 hr hk e1 e2 hq hc2 c1
                go_wp2_with fail
                refine (c1' _).mono ?_
                rintro e w2 ⟨rfl, rfl⟩
                go_wp2_with fail
                go_ret2
                exact ⟨ret_none HN.out, HBO.out⟩
              · have xq : ((q : Int) == 0) = false := beq_eq_false_iff_ne.2 (by omega)
                rw [if_neg hq0] at e2
                have HA : Hid (At (L s) ks (i + q + 1) 2 (out ++ [c2])) := Lib.hid (.inr (.inr ⟨rfl, by rw [← hr, sh2_e hne.out (by rw [N0.out]; exact h39) (by rw [e2]; omega), e1, e2, map_more, List.drop_drop]; rfl⟩))
                clear h39 h92 hr hk e1 e2 hq hc2 c1
                go_wp2_with fail
                refine (c1' _).mono ?_
                rintro e w2 ⟨rfl, rfl⟩
                go_wp2_with (at_builtin; refine app_byte (v := u4) (out := out) rfl _ _ rfl wk rfl c2 (by rw [hcn]) HO.out rfl (by omega) ?_)
                intro v' w3 hown
                have HO2 := Lib.hid hown
                clear hown
                go_wp2_with fail
                go_roundw
                case rel => exact ⟨i + q + 1, 2, out ++ [c2], by omega, by go_num, rfl, HO2.out, by first | (rw [List.length_append]; simp only [List.length_cons, List.length_nil]; omega) | omega, HA.out⟩
                case measure => simp [intOf]; omega
            · have x92 : ((b : Int) != 92) = true := by rw [bne, beq_eq_false_iff_ne.2 (show (b : Int) ≠ 92 by omega)]; rfl
              have HN : Hid (shP (L s) = none) := Lib.hid (by
                unfold shP
                split
                · rfl
                · rw [← hr, sh2_x (by rw [N0.out]; exact h39) (rdE_no (by rw [N0.out]; exact h92))]; rfl)
              clear h39 h92 hr hk hq hc2 c1
              go_wp2_with fail
              refine (c1' _).mono ?_
              rintro e w2 ⟨rfl, rfl⟩
              go_wp2_with fail
              go_ret2
              exact ⟨ret_none HN.out, HBO.out⟩
    · have h0 : (L s).drop i = [] := List.drop_eq_nil_of_le (by rw [L_len]; omega)
      have hcv := own_string HO.out
      rcases hat with ⟨rfl, m, hz, hr⟩ | ⟨rfl, hr⟩ | ⟨rfl, hr⟩
      · have hm : m = 0 := by have := hz.2.2; rw [L_len] at this; omega
        subst hm
        rw [List.take_zero, map_nil, Nat.add_zero, h0, sh_nil] at hr
        by_cases hne : L s = []
        · have he := empty_true hne
          have HN : Hid (shP (L s) = none) := Lib.hid (by unfold shP; rw [if_pos hne])
          clear hr hz h0 hne
          go_wp2_with fail
          go_ret2
          exact ⟨ret_none HN.out, HBO.out⟩
        · have he := empty_false hne
          have HN : Hid (shP (L s) = some out) := Lib.hid (by unfold shP; rw [if_neg hne, ← hr]; simp)
          clear hr hz h0 hne
          go_wp2_with fail
          go_ret2
          exact ⟨ret_some HN.out, HBO.out⟩
      · have HN : Hid (shP (L s) = none) := Lib.hid (by
          unfold shP
          split
          · rfl
          · rw [← hr, h0, sh_nil]; rfl)
        clear hr h0
        go_wp2_with fail
        go_ret2
        exact ⟨ret_none HN.out, HBO.out⟩
      · have HN : Hid (shP (L s) = none) := Lib.hid (by
          unfold shP
          split
          · rfl
          · rw [← hr, h0, sh_nil]; rfl)
        clear hr h0
        go_wp2_with fail
        go_ret2
        exact ⟨ret_none HN.out, HBO.out⟩
end Go.Proofs.YtlilnljneakngaaDoor
