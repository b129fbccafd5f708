/-
  What the reference's C returns: what C reads. Conditions: the text has at most 1000000 bytes.
-/
import Derived.Test.YtlilnljneakngaaDoorQOne
set_option linter.unusedVariables false
namespace Go.Proofs.YtlilnljneakngaaDoor
open Go.RowKit

theorem drop_34 {t : Bytes} {j : Nat} (h : j ≤ t.length) : (t ++ [34]).drop j = t.drop j ++ [34] := List.drop_append_of_le_length h
/-- The text between the two quotes. -/
theorem inner_34 (s : ByteArray) (n : Nat) (hn : s.size = n + 2) (h0 : nth (L s) 0 = 34) (hl : nth (L s) (n + 1) = 34) :
    cP (L s) = cIn (L (s.extract 1 (n + 1)) ++ [34]) := by
  unfold cP
  rw [if_pos h0]
  congr 1
  rw [L_extract]
  have hlen : (L s).length = n + 2 := by rw [L_len, hn]
  have e : L s = (L s).take (n + 1) ++ [34] := by
    conv => lhs; rw [← List.take_append_drop (n + 1) (L s)]
    congr 1
    rw [drop_cons (by omega), List.drop_eq_nil_of_le (by omega)]
    rw [nth_get (by omega)] at hl
    rw [(toNat_eq (by decide)).1 hl]
    rfl
  conv => lhs; rw [e]
  exact drop_34 (by rw [List.length_take]; omega)
def RefCRel (m : ByteArray) (A : Option Bytes) (w : World) (v4 v5 : Value) (w' : World) : Prop :=
  ∃ (i : Nat) (out : Bytes), i ≤ m.size ∧ v5 = .int .i64 (i : Int) ∧ Own w v4 out w' ∧ out.length ≤ i ∧ (cIn ((L m).drop i ++ [34])).map (out ++ ·) = A

set_option maxHeartbeats 4000000 in
set_option maxRecDepth 100000 in
theorem refC_any (s : ByteArray) (w : World) (hs : s.size ≤ 1000000) :
    Calls Tryd.prog 14 #[.string s] w fun e w' => e = .returned (.tuple #[.string (T (ansT (cP (L s)))), .bool (ansB (cP (L s)))]) ∧ Below w.heap.size w w' := by
  by_cases hshort : s.size < 2
  · have HN : Hid (cP (L s) = none) := Lib.hid (cP_short (by rw [L_len]; exact hshort))
    go_enter Tryd.func14, Tryd.ntmps14
    go_wp2_with fail
    go_ret2
    exact ⟨ret_none HN.out, Below.refl _ _⟩
  obtain ⟨n, hn⟩ : ∃ n, s.size = n + 2 := ⟨s.size - 2, by omega⟩
  have h0 : 0 < s.size := by omega
  have hlast : n + 1 < s.size := by omega
  have e0 := get_nth' s 0 h0
  have e1 := get_nth' s (n + 1) hlast
  obtain ⟨a0, ha0⟩ : ∃ a0, nth (L s) 0 = a0 := ⟨_, rfl⟩
  obtain ⟨a1, ha1⟩ : ∃ a1, nth (L s) (n + 1) = a1 := ⟨_, rfl⟩
  rw [ha0] at e0
  rw [ha1] at e1
  have hz1 : (s.size : Int) - 1 = ((n + 1 : Nat) : Int) := by omega
  have hzn : s.size - 1 = n + 1 := by omega
  by_cases h34 : a0 = 34
  · by_cases h34' : a1 = 34
    · have HP := Lib.hid (inner_34 s n hn (by rw [ha0, h34]) (by rw [ha1, h34']))
      obtain ⟨A, hA⟩ : ∃ A, cP (L s) = A := ⟨_, rfl⟩
      rw [hA] at HP ⊢
      subst h34 h34'
      clear ha0 ha1 hA
      have hmz : (s.extract 1 (n + 1)).size = n := by rw [← L_len, L_extract, List.length_drop, List.length_take, L_len]; omega
      go_enter Tryd.func14, Tryd.ntmps14
      go_wp2_with fail
      obtain ⟨m, hm⟩ : ∃ m, s.extract 1 (n + 2 - 1) = m := ⟨_, rfl⟩
      have HP2 : Hid (A = cIn (L m ++ [34])) := Lib.hid (by rw [← hm]; exact HP.out)
      have hms : m.size = n := by rw [← hm]; exact hmz
      rw [hm]
      clear hm hmz HP
      go_loopw [4, 5] (RefCRel m A w) (fun _ v _ => m.size - (intOf v).toNat)
      case atStart => exact ⟨0, [], Nat.zero_le _, rfl, Own.none w, Nat.le_refl _, by rw [List.drop_zero, HP2.out]; simp⟩
      case round =>
        obtain ⟨i, out, hi, rfl, hown, hol, hr⟩ := hrel
        have HO := Lib.hid hown
        have HR := Lib.hid hr
        clear hown hr
        by_cases hlt : i < m.size
        · have hll : i < (L m).length := by rw [L_len]; exact hlt
          have ei := get_nth' m i hlt
          obtain ⟨b, hb⟩ : ∃ b, nth (L m) i = b := ⟨_, rfl⟩
          rw [hb] at ei
          obtain ⟨c, hc⟩ : ∃ c, m[i]'hlt = c := ⟨_, rfl⟩
          rw [hc] at ei
          have ht : (L m).drop i = c :: (L m).drop (i + 1) := by rw [drop_cons hll, ← hc]; rfl
          have n0 : nth ((L m).drop i ++ [34]) 0 = b := by rw [nth_app _ _ _ (by rw [List.length_drop]; omega), nth_drop, Nat.add_zero, hb]
          have hne : (L m).drop i ++ [34] ≠ [] := by simp
          have hd1 : ((L m).drop i ++ [34]).drop 1 = (L m).drop (i + 1) ++ [34] := by rw [drop_34 (by rw [List.length_drop]; omega), List.drop_drop]
          by_cases h34 : b = 34
          · have HN : Hid (A = none) := Lib.hid (by rw [← HR.out, cIn_q (by rw [n0, h34]), hd1, if_neg (by simp)]; rfl)
            have hx : ((b : Int) == 34) = true := by rw [h34]; rfl
            clear h34 ht n0 hne hd1 hb
            go_wp2_with fail
            go_ret2
            exact ⟨ret_none HN.out, HO.out.below⟩
          · have hx : ((b : Int) == 34) = false := beq_eq_false_iff_ne.2 (by omega)
            by_cases h92 : b = 92
            · have hy : ((b : Int) != 92) = false := by rw [h92]; rfl
              by_cases hp : i + 1 < m.size ∧ (nth (L m) (i + 1) = 34 ∨ nth (L m) (i + 1) = 92)
              · have hin : i + 1 < m.size := hp.1
                have ej := get_nth' m (i + 1) hin
                obtain ⟨d, hd⟩ : ∃ d, nth (L m) (i + 1) = d := ⟨_, rfl⟩
                rw [hd] at ej
                obtain ⟨c2, hc2⟩ : ∃ c2, m[i + 1]'hin = c2 := ⟨_, rfl⟩
                rw [hc2] at ej
                have hjl : i + 1 < (L m).length := by rw [L_len]; exact hin
                have HC : Hid (cIn ((L m).drop i ++ [34]) = (cIn ((L m).drop (i + 2) ++ [34])).map (c2 :: ·)) := Lib.hid (by
                  have n1 : nth ((L m).drop i ++ [34]) 1 = d := by rw [nth_app _ _ _ (by rw [List.length_drop]; omega), nth_drop, hd]
                  rw [cIn_b (by rw [n0, h92]) (by rw [n1, ← hd]; exact hp.2), hd1, drop_34 (by rw [List.length_drop]; omega), List.drop_drop, drop_cons hjl, ← hc2]
                  rfl)
                have hdd : d = 34 ∨ d = 92 := by rw [← hd]; exact hp.2
                clear ht n0 hne hd1 hb hp hd
                by_cases h3 : d = 34
                · have hz : ((d : Int) == 34) = true := by rw [h3]; rfl
                  clear hdd h3 h92 h34
                  go_wp2_with (at_builtin; refine app_byte (v := u4) (out := out) rfl _ _ rfl w rfl c2 (by rw [ej]) HO.out rfl (by omega) ?_)
                  intro v' w3 hown
                  have HO2 := Lib.hid hown
                  clear hown
                  go_wp2_with fail
                  go_roundw
                  case rel => exact ⟨i + 2, out ++ [c2], by omega, by go_num, HO2.out, by rw [List.length_append]; simp only [List.length_cons, List.length_nil]; omega, by rw [← HR.out, HC.out, map_more]⟩
                  case measure => simp [intOf]; omega
                · have hz : ((d : Int) == 34) = false := beq_eq_false_iff_ne.2 (by omega)
                  have hz2 : ((d : Int) == 92) = true := beq_iff_eq.2 (by omega)
                  clear hdd h3 h92 h34
                  go_wp2_with (at_builtin; refine app_byte (v := u4) (out := out) rfl _ _ rfl w rfl c2 (by rw [ej]) HO.out rfl (by omega) ?_)
                  intro v' w3 hown
                  have HO2 := Lib.hid hown
                  clear hown
                  go_wp2_with fail
                  go_roundw
                  case rel => exact ⟨i + 2, out ++ [c2], by omega, by go_num, HO2.out, by rw [List.length_append]; simp only [List.length_cons, List.length_nil]; omega, by rw [← HR.out, HC.out, map_more]⟩
                  case measure => simp [intOf]; omega
              · have c1 := fun wx => one_any m (i + 1) wx (by omega) (by omega)
                have hle := on_le ((L m).drop (i + 1))
                rw [List.length_drop, L_len] at hle
                obtain ⟨e1, e2⟩ := rdE_on (m := (L m).drop i ++ [34]) (by rw [n0, h92])
                rw [hd1, on_34] at e1 e2
                obtain ⟨c2, hc2⟩ : ∃ c2, (onP ((L m).drop (i + 1))).1 = c2 := ⟨_, rfl⟩
                obtain ⟨k, hk⟩ : ∃ k, (onP ((L m).drop (i + 1))).2 = k := ⟨_, rfl⟩
                rw [hk] at e2 hle
                rw [hc2] at e1
                have HX : Hid (k = 0 → A = none) := Lib.hid (fun hk0 => by
                  rw [← HR.out]
                  by_cases hpp : nth ((L m).drop i ++ [34]) 1 = 34 ∨ nth ((L m).drop i ++ [34]) 1 = 92
                  · have hend : ¬ i + 1 < m.size := fun hin => hp ⟨hin, by
                      rw [nth_app _ _ _ (by rw [List.length_drop, L_len]; omega), nth_drop] at hpp; exact hpp⟩
                    have : ((L m).drop i ++ [34]).drop 2 = [] := List.drop_eq_nil_of_le (by rw [List.length_append, List.length_drop, L_len]; simp; omega)
                    rw [cIn_b (by rw [n0, h92]) hpp, this, cIn_nil]
                    rfl
                  · rw [cIn_x (by rw [n0, h92]) hpp (by rw [e2, if_pos hk0])]
                    rfl)
                have HC0 : Hid (k ≠ 0 → cIn ((L m).drop i ++ [34]) = (cIn ((L m).drop (i + k + 1) ++ [34])).map (c2 :: ·)) := Lib.hid (fun hk0 => by
                  have hin : i + 1 < m.size := by omega
                  have hpp : ¬ (nth ((L m).drop i ++ [34]) 1 = 34 ∨ nth ((L m).drop i ++ [34]) 1 = 92) := fun h => hp ⟨hin, by
                    rw [nth_app _ _ _ (by rw [List.length_drop, L_len]; omega), nth_drop] at h; exact h⟩
                  rw [if_neg hk0] at e2
                  rw [cIn_e (by rw [n0, h92]) hpp (by rw [e2]; omega), e1, e2, drop_34 (by rw [List.length_drop, L_len]; omega), List.drop_drop]
                  rfl)
                obtain ⟨cn, hcn⟩ : ∃ cn, c2.toNat = cn := ⟨_, rfl⟩
                have c1' : ∀ wx, Calls Tryd.prog 27 #[.string m, .int .i64 ((i : Int) + 1)] wx fun e w' => e = .returned (.tuple #[.int .u8 (cn : Int), .int .i64 (k : Int)]) ∧ w' = wx := fun wx => by
                  have h := c1 wx
                  rw [hc2, hk, hcn] at h
                  exact h
                have hnext : i + 1 < m.size → nth (L m) (i + 1) ≠ 34 ∧ nth (L m) (i + 1) ≠ 92 := fun hin => ⟨fun h => hp ⟨hin, .inl h⟩, fun h => hp ⟨hin, .inr h⟩⟩
                have HNX := Lib.hid hnext
                clear ht n0 hne hd1 hb hp e1 e2 hc2 hk c1 hnext h92 h34
                by_cases hin : i + 1 < m.size
                · have ej := get_nth' m (i + 1) hin
                  obtain ⟨n1, n2⟩ := HNX.out hin
                  obtain ⟨d, hd⟩ : ∃ d, nth (L m) (i + 1) = d := ⟨_, rfl⟩
                  rw [hd] at ej n1 n2
                  have hz : ((d : Int) == 34) = false := beq_eq_false_iff_ne.2 (by omega)
                  have hz2 : ((d : Int) == 92) = false := beq_eq_false_iff_ne.2 (by omega)
                  clear n1 n2 hd
                  by_cases hk0 : k = 0
                  · have HN := Lib.hid (HX.out hk0)
                    subst hk0
                    go_wp2_with fail
                    refine (c1' _).mono ?_
                    rintro e w2 ⟨rfl, rfl⟩
                    go_wp2_with fail
                    go_ret2
                    exact ⟨ret_none HN.out, HO.out.below⟩
                  · have HC := Lib.hid (HC0.out hk0)
                    have hq : ((k : Int) == 0) = false := beq_eq_false_iff_ne.2 (by omega)
                    go_wp2_with fail
                    refine (c1' _).mono ?_
                    rintro e w2 ⟨rfl, rfl⟩
                    go_wp2_with (at_builtin; refine app_byte (v := u4) (out := out) rfl _ _ rfl w rfl c2 (by rw [hcn]) HO.out rfl (by omega) ?_)
                    intro v' w3 hown
                    have HO2 := Lib.hid hown
                    clear hown
                    go_wp2_with fail
                    go_roundw
                    case rel => exact ⟨i + k + 1, out ++ [c2], by omega, by go_num, HO2.out, by rw [List.length_append]; simp only [List.length_cons, List.length_nil]; omega, by rw [← HR.out, HC.out, map_more]⟩
                    case measure => simp [intOf]; omega
                · clear HNX
                  by_cases hk0 : k = 0
                  · have HN := Lib.hid (HX.out hk0)
                    subst hk0
                    go_wp2_with fail
                    refine (c1' _).mono ?_
                    rintro e w2 ⟨rfl, rfl⟩
                    go_wp2_with fail
                    go_ret2
                    exact ⟨ret_none HN.out, HO.out.below⟩
                  · omega
            · have hy : ((b : Int) != 92) = true := by rw [bne, beq_eq_false_iff_ne.2 (show (b : Int) ≠ 92 by omega)]; rfl
              have HC : Hid (cIn ((L m).drop i ++ [34]) = (cIn ((L m).drop (i + 1) ++ [34])).map (c :: ·)) := Lib.hid (by
                rw [cIn_p hne (by rw [n0]; exact h34) (by rw [n0]; exact h92), hd1, ht]
                rfl)
              clear ht n0 hne hd1 hb h34 h92
              go_wp2_with (at_builtin; refine app_byte (v := u4) (out := out) rfl _ _ rfl w rfl c (by rw [ei]) HO.out rfl (by omega) ?_)
              intro v' w3 hown
              have HO2 := Lib.hid hown
              clear hown
              go_wp2_with fail
              go_roundw
              case rel => exact ⟨i + 1, out ++ [c], by omega, by go_num, HO2.out, by rw [List.length_append]; simp only [List.length_cons, List.length_nil]; omega, by rw [← HR.out, HC.out, map_more]⟩
              case measure => simp [intOf]; omega
        · have h0 : (L m).drop i = [] := List.drop_eq_nil_of_le (by rw [L_len]; omega)
          have HN : Hid (A = some out) := Lib.hid (by
            rw [← HR.out, h0, List.nil_append, cIn_q rfl]
            simp)
          have hcv := own_string HO.out
          go_wp2_with fail
          go_ret2
          exact ⟨ret_some HN.out, HO.out.below⟩
    · have HN : Hid (cP (L s) = none) := Lib.hid (cP_last (n := n) (by rw [L_len]; exact hn) (by rw [ha1]; exact h34'))
      subst h34
      clear ha0 ha1
      have hx : ((a1 : Int) == 34) = false := beq_eq_false_iff_ne.2 (by omega)
      have hx2 : ((a1 : Int) != 34) = true := by rw [bne, hx]; rfl
      go_enter Tryd.func14, Tryd.ntmps14
      go_wp2_with fail
      go_ret2
      exact ⟨ret_none HN.out, Below.refl _ _⟩
  · have HN : Hid (cP (L s) = none) := Lib.hid (by unfold cP; rw [if_neg (by rw [ha0]; exact h34)])
    have hx : ((a0 : Int) == 34) = false := beq_eq_false_iff_ne.2 (by omega)
    clear ha0 ha1
    go_enter Tryd.func14, Tryd.ntmps14
    go_wp2_with fail
    go_ret2
    exact ⟨ret_none HN.out, Below.refl _ _⟩
end Go.Proofs.YtlilnljneakngaaDoor
