/-
  What the reference's Kinds returns. Conditions: the text has at most 1000000 bytes.
-/
import Derived.Test.YtigkdehaepenhaaGreatDoorFQC
set_option linter.unusedSimpArgs false
set_option linter.unusedVariables false
namespace Go.Proofs.YtigkdehaepenhaaGreatDoor.Q
open Go.RowKit

theorem OwnI.keep {W0 : World} {v : Value} {ks : List Nat} {w w' : World} (h : OwnI W0 v ks w) (hb : Below w.heap.size w w') : OwnI W0 v ks w' := by
  obtain ⟨h1, h2, h3⟩ := h
  refine ⟨?_, h2.trans (hb.mono h3), Nat.le_trans h3 hb.size⟩
  exact h1.kept (row := Option.none) ⟨hb.os, hb.tape, hb.output, hb.size, fun k hk _ => hb.block k hk⟩ (by cases v.ownBlock <;> simp)

/-- The character at a place, as the reference reads it: its number and its bytes. -/
def CharIs (c : Bytes) (K : Nat) (R : Int) : Prop := (1 < K ∧ 128 ≤ R ∧ 2 ≤ c.length) ∨ (K = 1 ∧ R = -1 ∧ ∃ b : UInt8, c = [b] ∧ 128 ≤ b.toNat) ∨ (K = 1 ∧ ∃ b : UInt8, c = [b] ∧ R = b.toNat ∧ b.toNat < 128)
set_option maxRecDepth 100000 in
theorem dN_num (n b0 b1 b2 b3 : Nat) (h : 1 < (Lib.decodeN n b0 b1 b2 b3).2) : 128 ≤ (Lib.decodeN n b0 b1 b2 b3).1 := by
  revert h
  unfold Lib.decodeN
  repeat' split
  all_goals intro h
  all_goals first | (exfalso; dsimp only at h; omega) | (dsimp only; omega)
theorem next_char (s : ByteArray) (p : Nat) (w : World) (hs : s.size ≤ 1000000) (hp : p < s.size) :
    ∃ R : Int, CharIs (((L s).drop p).take (sz ((L s).drop p))) (sz ((L s).drop p)) R ∧
      Calls Tryz.prog 115 #[.string (s.extract p s.size)] w fun e w' => e = .returned (.tuple #[.int .i64 R, .int .i64 ((sz ((L s).drop p) : Nat) : Int)]) ∧ w = w' := by
  have hz := tail_size s p
  have h := next_any (s.extract p s.size) w (by omega) (by omega)
  have hl : (L s).drop p ≠ [] := drop_ne (by rw [L_len]; exact hp)
  have e2 : (Utf8.decode (s.extract p s.size) 0).2 = sz ((L s).drop p) := by rw [decode_L, L_from]; rfl
  rw [e2] at h
  refine ⟨nextR (s.extract p s.size), ?_, h⟩
  have hg : ((s.extract p s.size).get! 0).toNat = nth ((L s).drop p) 0 := by rw [get_nth, L_from]
  have e1 : ((Utf8.decode (s.extract p s.size) 0).1 : Nat) = (dec ((L s).drop p)).1 := by rw [decode_L, L_from]
  unfold nextR
  rw [hg, e2, e1]
  have hb := sz_bd ((L s).drop p)
  by_cases h1 : 1 < sz ((L s).drop p)
  · left
    rw [if_neg (by omega)]
    have hn : 128 ≤ (dec ((L s).drop p)).1 := dN_num _ _ _ _ _ h1
    refine ⟨h1, by omega, ?_⟩
    have := sz_le _ hl
    rw [List.length_take]
    omega
  · have hs1 : sz ((L s).drop p) = 1 := by omega
    rw [hs1]
    obtain ⟨b, r, hbr⟩ : ∃ b r, (L s).drop p = b :: r := by
      cases hd : (L s).drop p with
      | nil => exact absurd hd hl
      | cons b r => exact ⟨b, r, rfl⟩
    rw [hbr]
    by_cases hc : 128 ≤ b.toNat
    · right; left
      rw [if_pos ⟨hc, rfl⟩]
      exact ⟨rfl, rfl, b, rfl, hc⟩
    · right; right
      rw [if_neg (fun x => hc x.1)]
      refine ⟨rfl, b, rfl, ?_, by omega⟩
      rw [dec_ascii (l := b :: r) (by rw [show nth (b :: r) 0 = b.toNat from rfl]; omega)]
      rfl
theorem isSign_nat (n : Nat) : isSign (n : Int) = ([95, 64, 37, 43, 61, 58, 44, 46, 47, 45] : List Nat).contains n := by
  unfold isSign
  rw [← List.elem_eq_contains]
  simp only [List.any_cons, List.any_nil, List.elem_cons, List.elem_nil]
  have e : ∀ m : Nat, ((m : Int) == (n : Int)) = (n == m) := fun m => by
    by_cases h : n = m
    · subst h; simp
    · rw [beq_eq_false_iff_ne.2 h, beq_eq_false_iff_ne.2 (by omega)]
  simp only [e]
  cases (n == 95) <;> cases (n == 64) <;> cases (n == 37) <;> cases (n == 43) <;> cases (n == 61) <;> cases (n == 58) <;> cases (n == 44) <;> cases (n == 46) <;> cases (n == 47) <;> cases (n == 45) <;> rfl
theorem rk_one (b : UInt8) : rk [b] = if kb b.toNat = 1 then 2 else if kb b.toNat = 0 then 1 else 0 := rfl
/-- What the reference's tests come to. -/
def mark1 (R : Int) : Nat := if R < 32 ∨ R = 127 then 2 else 0
def letterR (R : Int) : Prop := (65 ≤ R ∧ R ≤ 90) ∨ (97 ≤ R ∧ R ≤ 122) ∨ (48 ≤ R ∧ R ≤ 57)
theorem rk_multi {c : Bytes} {K : Nat} {R : Int} (h : CharIs c K R) (hK : 1 < K) : rk c = 1 := by
  rcases h with ⟨_, _, h2⟩ | ⟨h1, _⟩ | ⟨h1, _⟩
  · unfold rk; rw [kc_multi h2]; rfl
  · omega
  · omega
theorem rk_letter {c : Bytes} {K : Nat} {R : Int} (h : CharIs c K R) (hK : ¬ 1 < K) (hl : letterR R) : rk c = 1 := by
  unfold letterR at hl
  rcases h with ⟨h1, _⟩ | ⟨_, h1, _⟩ | ⟨_, b, rfl, h1, hb⟩
  · omega
  · omega
  · have hp : plainB b.toNat = true := by
      unfold plainB
      simp only [Bool.or_eq_true, Bool.and_eq_true, decide_eq_true_eq]
      omega
    have : kb b.toNat = 0 := by unfold kb; rw [if_neg (by omega), if_pos hp]
    rw [rk_one, this]
    rfl
theorem rk_sign {c : Bytes} {K : Nat} {R : Int} (h : CharIs c K R) (hK : ¬ 1 < K) (hs : isSign R = true) : rk c = 1 := by
  rcases h with ⟨h1, _⟩ | ⟨_, h1, _⟩ | ⟨_, b, rfl, h1, hb⟩
  · omega
  · rw [h1] at hs; exact absurd hs (by decide)
  · rw [h1, isSign_nat] at hs
    have hp : plainB b.toNat = true := by unfold plainB; rw [hs, Bool.or_true]
    have h2 := (sign_iff b.toNat).1 hs
    have : kb b.toNat = 0 := by unfold kb; rw [if_neg (by omega), if_pos hp]
    rw [rk_one, this]
    rfl
theorem rk_none {c : Bytes} {K : Nat} {R : Int} (h : CharIs c K R) (hK : ¬ 1 < K) (hl : ¬ letterR R) (hs : isSign R = false) : rk c = mark1 R := by
  unfold letterR at hl
  rcases h with ⟨h1, _⟩ | ⟨_, h1, b, rfl, hb⟩ | ⟨_, b, rfl, h1, hb⟩
  · omega
  · have : kb b.toNat = 1 := by unfold kb; rw [if_pos (by omega)]
    unfold mark1
    rw [rk_one, this, if_pos (show R < 32 ∨ R = 127 by omega)]
    rfl
  · rw [h1, isSign_nat] at hs
    have hp : plainB b.toNat = false := by
      unfold plainB
      rw [hs]
      simp only [Bool.or_false, Bool.or_eq_false_iff, Bool.and_eq_false_iff, decide_eq_false_iff_not]
      omega
    unfold mark1
    by_cases hh : b.toNat < 32 ∨ 127 ≤ b.toNat
    · have : kb b.toNat = 1 := by unfold kb; rw [if_pos hh]
      rw [rk_one, this, if_pos (show R < 32 ∨ R = 127 by omega)]; rfl
    · have : kb b.toNat = 2 := by unfold kb; rw [if_neg hh, hp]; rfl
      rw [rk_one, this, if_neg (show ¬ (R < 32 ∨ R = 127) by omega)]; rfl

def KOut (s : ByteArray) (w : World) (v v4 : Value) (w' : World) : Prop :=
  ∃ (p : Nat) (ks : List Nat), p ≤ s.size ∧ v4 = .int .i64 (p : Int) ∧ ks.length = p ∧ OwnI w v ks w' ∧ ks ++ kindsP ((L s).drop p) = kindsP (L s)
def KIn (w : World) (ks : List Nat) (K r : Nat) (v v8 : Value) (w' : World) : Prop :=
  ∃ i : Nat, i ≤ K ∧ v8 = .int .i64 (i : Int) ∧ OwnI w v (ks ++ List.replicate i r) w'

set_option maxHeartbeats 4000000 in
set_option maxRecDepth 100000 in
theorem kinds_any (s : ByteArray) (w : World) (hs : s.size ≤ 1000000) :
    Calls Tryz.prog 88 #[.string s] w fun e w' => ∃ v, e = .returned v ∧ OwnI w v (kindsP (L s)) w' := by
  go_enter Tryz.func88, Tryz.ntmps88
  go_wp2
  go_loopw [3, 4] (KOut s w) (fun _ v _ => s.size - (intOf v).toNat)
  case atStart => exact ⟨0, [], Nat.zero_le _, rfl, rfl, OwnI.none w, by rw [List.drop_zero]; rfl⟩
  case round =>
    obtain ⟨p, ks, hp, rfl, hkl, hown, hks⟩ := hrel
    have HO := Lib.hid hown
    have HK := Lib.hid hks
    clear hown hks
    by_cases hlt : p < s.size
    · have hne := Lib.hid (drop_ne (l := L s) (p := p) (by rw [L_len]; exact hlt))
      obtain ⟨R, hR, cN⟩ := next_char s p wr hs hlt
      obtain ⟨K, hK⟩ : ∃ K, sz ((L s).drop p) = K := ⟨_, rfl⟩
      rw [hK] at hR cN
      obtain ⟨r, hr⟩ : ∃ r, rk (((L s).drop p).take K) = r := ⟨_, rfl⟩
      have HS : Hid (kindsP ((L s).drop p) = List.replicate K r ++ kindsP ((L s).drop (p + K))) := Lib.hid (by
        rw [kindsP_step hne.out, hK, hr, List.drop_drop])
      have hbd : 1 ≤ K ∧ K ≤ 4 := by rw [← hK]; exact sz_bd _
      have hle : p + K ≤ s.size := by
        have h1 := sz_le _ hne.out
        rw [hK, List.length_drop, L_len] at h1
        omega
      have HC := Lib.hid hR
      have HR := Lib.hid hr
      clear hR hr hK
      go_wp2_with fail
      refine cN.mono ?_
      rintro e w2 ⟨rfl, rfl⟩
      go_upto_region 6 with fail
      go_cut [29] from 9 to 71 (fun v29 wx => v29 = .bool (decide (R < 32 ∨ R = 127)) ∧ wr = wx)
      case first =>
        by_cases h32 : R < 32
        · have HM : Hid (decide (R < 32 ∨ R = 127) = true) := Lib.hid (decide_eq_true (.inl h32))
          by_cases hneg : R < 0
          · go_wp2_with fail
            go_meet
            rw [HM.out]
            exact ⟨rfl, rfl⟩
          · go_wp2_with fail
            go_meet
            rw [HM.out]
            exact ⟨rfl, rfl⟩
        · have hneg : ¬ R < 0 := by omega
          by_cases h127 : R = 127
          · have HM : Hid (decide (R < 32 ∨ R = 127) = true) := Lib.hid (decide_eq_true (.inr h127))
            have hx : (R == 127) = true := beq_iff_eq.2 h127
            clear h127
            go_wp2_with fail
            go_meet
            rw [HM.out]
            exact ⟨rfl, rfl⟩
          · have HM : Hid (decide (R < 32 ∨ R = 127) = false) := Lib.hid (decide_eq_false (by omega))
            have hx : (R == 127) = false := beq_eq_false_iff_ne.2 h127
            clear h127
            go_wp2_with fail
            go_meet
            rw [HM.out]
            exact ⟨rfl, rfl⟩
      case rest =>
        obtain ⟨rfl, rfl⟩ := hcut
        have H0 : Hid (¬ 1 < K → r = 1 ∨ r = mark1 R) := Lib.hid (fun h1 => by
          rw [← HR.out]
          by_cases hl : letterR R
          · exact .inl (rk_letter HC.out h1 hl)
          · cases hsg : isSign R with
            | true => exact .inl (rk_sign HC.out h1 hsg)
            | false => exact .inr (rk_none HC.out h1 hl hsg))
        have H1 : Hid (1 < K → r = 1) := Lib.hid (fun h1 => by rw [← HR.out]; exact rk_multi HC.out h1)
        by_cases hb1 : R < 32 ∨ R = 127
        · have HV : Hid ((2 : Int) = (r : Int) ∧ r ≠ 1) := Lib.hid (by
            have hm : mark1 R = 2 := by unfold mark1; rw [if_pos hb1]
            have hr1 : r ≠ 1 := by
              rw [← HR.out]
              rcases HC.out with ⟨_, h2, _⟩ | ⟨_, h2, b, hb, hbb⟩ | ⟨_, b, hb, h2, hbb⟩
              · omega
              · rw [hb, rk_one]
                have : kb b.toNat = 1 := by unfold kb; rw [if_pos (by omega)]
                rw [this]; decide
              · rw [hb, rk_one]
                have : kb b.toNat = 1 := by unfold kb; rw [if_pos (by omega)]
                rw [this]; decide
            have : r = 2 := by
              by_cases h1 : 1 < K
              · exact absurd (H1.out h1) hr1
              · rcases H0.out h1 with h | h
                · exact absurd h hr1
                · rw [h, hm]
            exact ⟨by rw [this]; rfl, hr1⟩)
          rw [decide_eq_true hb1]
          go_upto_region 8 with fail
          go_cut [59] from 9 to 71 (fun v59 wx => v59 = .bool (decide (r = 1)) ∧ wr = wx)
          case first =>
            by_cases h1 : 1 < K
            · have HM : Hid (decide (r = 1) = true) := Lib.hid (decide_eq_true (by rw [← HR.out]; exact rk_multi HC.out h1))
              go_wp2_with fail
              all_goals (go_meet; rw [HM.out]; exact ⟨rfl, rfl⟩)
            · by_cases hl : letterR R
              · have HM : Hid (decide (r = 1) = true) := Lib.hid (decide_eq_true (by rw [← HR.out]; exact rk_letter HC.out h1 hl))
                rcases hl with hl | hl | hl
                · go_wp2_with fail
                  all_goals (go_meet; rw [HM.out]; exact ⟨rfl, rfl⟩)
                · go_wp2_with fail
                  all_goals (go_meet; rw [HM.out]; exact ⟨rfl, rfl⟩)
                · go_wp2_with fail
                  all_goals (go_meet; rw [HM.out]; exact ⟨rfl, rfl⟩)
              · have cS := sign_any R wr
                obtain ⟨sg, hsg⟩ : ∃ sg, isSign R = sg := ⟨_, rfl⟩
                rw [hsg] at cS
                cases sg with
                | true =>
                  have HM : Hid (decide (r = 1) = true) := Lib.hid (decide_eq_true (by rw [← HR.out]; exact rk_sign HC.out h1 hsg))
                  clear hsg
                  unfold letterR at hl
                  go_wp2_with fail
                  all_goals (refine cS.mono ?_; rintro e w3 ⟨rfl, rfl⟩; go_wp2_with fail; go_meet; rw [HM.out]; exact ⟨rfl, rfl⟩)
                | false =>
                  have HM : Hid (decide (r = 1) = false) := Lib.hid (decide_eq_false (by
                    rw [← HR.out, rk_none HC.out h1 hl hsg]
                    unfold mark1
                    split <;> decide))
                  clear hsg
                  unfold letterR at hl
                  go_wp2_with fail
                  all_goals (refine cS.mono ?_; rintro e w3 ⟨rfl, rfl⟩; go_wp2_with fail; go_meet; rw [HM.out]; first | exact ⟨rfl, rfl⟩ | exact ⟨congrArg Value.bool (by simp only [Bool.or_eq_false_iff, decide_eq_false_iff_not]; omega), rfl⟩)
          case rest =>
            obtain ⟨rfl, rfl⟩ := hcut
            rw [decide_eq_false HV.out.2]
            have HV := Lib.hid HV.out.1
            go_wp2_with fail
            go_hide hQ
            go_loopw [3, 8] (KIn w ks K r) (fun _ v _ => K - (intOf v).toNat)
            case atStart => exact ⟨0, Nat.zero_le _, rfl, by rw [List.replicate_zero, List.append_nil]; exact HO.out⟩
            case round =>
              obtain ⟨i, hi, rfl, howni⟩ := hrel
              have HI := Lib.hid howni
              clear howni
              by_cases hik : i < K
              · go_wp2_with (at_builtin; refine app_int (v := u3) (ks := ks ++ List.replicate i r) rfl _ _ rfl w rfl r HV.out HI.out rfl (by rw [List.length_append, List.length_replicate]; omega) ?_)
                intro v' w4 hown
                have HO4 : Hid (OwnI w v' (ks ++ List.replicate (i + 1) r) w4) := Lib.hid (by rw [List.replicate_succ']; first | exact hown | (rw [← List.append_assoc]; exact hown))
                clear hown
                go_wp2_with fail
                go_roundw
                case rel => exact ⟨i + 1, by omega, by go_num, HO4.out⟩
                case measure => simp [intOf]; omega
              · obtain rfl : i = K := by omega
                go_wp2_with fail
                subst hQ
                go_wp2_with fail
                go_roundw
                case rel => exact ⟨p + i, ks ++ List.replicate i r, by omega, by go_num, by rw [List.length_append, List.length_replicate, hkl], HI.out, by rw [← HK.out, HS.out, List.append_assoc]⟩
                case measure => simp [intOf]; omega
        · rw [decide_eq_false hb1]
          go_upto_region 8 with fail
          go_cut [59] from 9 to 71 (fun v59 wx => v59 = .bool (decide (r = 1)) ∧ wr = wx)
          case first =>
            by_cases h1 : 1 < K
            · have HM : Hid (decide (r = 1) = true) := Lib.hid (decide_eq_true (by rw [← HR.out]; exact rk_multi HC.out h1))
              go_wp2_with fail
              all_goals (go_meet; rw [HM.out]; exact ⟨rfl, rfl⟩)
            · by_cases hl : letterR R
              · have HM : Hid (decide (r = 1) = true) := Lib.hid (decide_eq_true (by rw [← HR.out]; exact rk_letter HC.out h1 hl))
                rcases hl with hl | hl | hl
                · go_wp2_with fail
                  all_goals (go_meet; rw [HM.out]; exact ⟨rfl, rfl⟩)
                · go_wp2_with fail
                  all_goals (go_meet; rw [HM.out]; exact ⟨rfl, rfl⟩)
                · go_wp2_with fail
                  all_goals (go_meet; rw [HM.out]; exact ⟨rfl, rfl⟩)
              · have cS := sign_any R wr
                obtain ⟨sg, hsg⟩ : ∃ sg, isSign R = sg := ⟨_, rfl⟩
                rw [hsg] at cS
                cases sg with
                | true =>
                  have HM : Hid (decide (r = 1) = true) := Lib.hid (decide_eq_true (by rw [← HR.out]; exact rk_sign HC.out h1 hsg))
                  clear hsg
                  unfold letterR at hl
                  go_wp2_with fail
                  all_goals (refine cS.mono ?_; rintro e w3 ⟨rfl, rfl⟩; go_wp2_with fail; go_meet; rw [HM.out]; exact ⟨rfl, rfl⟩)
                | false =>
                  have HM : Hid (decide (r = 1) = false) := Lib.hid (decide_eq_false (by
                    rw [← HR.out, rk_none HC.out h1 hl hsg]
                    unfold mark1
                    split <;> decide))
                  clear hsg
                  unfold letterR at hl
                  go_wp2_with fail
                  all_goals (refine cS.mono ?_; rintro e w3 ⟨rfl, rfl⟩; go_wp2_with fail; go_meet; rw [HM.out]; first | exact ⟨rfl, rfl⟩ | exact ⟨congrArg Value.bool (by simp only [Bool.or_eq_false_iff, decide_eq_false_iff_not]; omega), rfl⟩)
          case rest =>
            obtain ⟨rfl, rfl⟩ := hcut
            by_cases hr1 : r = 1
            · rw [decide_eq_true hr1]
              have HV : Hid ((1 : Int) = (r : Int)) := Lib.hid (by rw [hr1]; rfl)
              clear hr1
              go_wp2_with fail
              go_hide hQ
              go_loopw [3, 8] (KIn w ks K r) (fun _ v _ => K - (intOf v).toNat)
              case atStart => exact ⟨0, Nat.zero_le _, rfl, by rw [List.replicate_zero, List.append_nil]; exact HO.out⟩
              case round =>
                obtain ⟨i, hi, rfl, howni⟩ := hrel
                have HI := Lib.hid howni
                clear howni
                by_cases hik : i < K
                · go_wp2_with (at_builtin; refine app_int (v := u3) (ks := ks ++ List.replicate i r) rfl _ _ rfl w rfl r HV.out HI.out rfl (by rw [List.length_append, List.length_replicate]; omega) ?_)
                  intro v' w4 hown
                  have HO4 : Hid (OwnI w v' (ks ++ List.replicate (i + 1) r) w4) := Lib.hid (by rw [List.replicate_succ']; first | exact hown | (rw [← List.append_assoc]; exact hown))
                  clear hown
                  go_wp2_with fail
                  go_roundw
                  case rel => exact ⟨i + 1, by omega, by go_num, HO4.out⟩
                  case measure => simp [intOf]; omega
                · obtain rfl : i = K := by omega
                  go_wp2_with fail
                  subst hQ
                  go_wp2_with fail
                  go_roundw
                  case rel => exact ⟨p + i, ks ++ List.replicate i r, by omega, by go_num, by rw [List.length_append, List.length_replicate, hkl], HI.out, by rw [← HK.out, HS.out, List.append_assoc]⟩
                  case measure => simp [intOf]; omega
            · rw [decide_eq_false hr1]
              have HV : Hid ((0 : Int) = (r : Int)) := Lib.hid (by
                have hm : mark1 R = 0 := by unfold mark1; rw [if_neg hb1]
                have : r = 0 := by
                  by_cases h1 : 1 < K
                  · exact absurd (H1.out h1) hr1
                  · rcases H0.out h1 with h | h
                    · exact absurd h hr1
                    · rw [h, hm]
                rw [this]; rfl)
              clear hr1
              go_wp2_with fail
              go_hide hQ
              go_loopw [3, 8] (KIn w ks K r) (fun _ v _ => K - (intOf v).toNat)
              case atStart => exact ⟨0, Nat.zero_le _, rfl, by rw [List.replicate_zero, List.append_nil]; exact HO.out⟩
              case round =>
                obtain ⟨i, hi, rfl, howni⟩ := hrel
                have HI := Lib.hid howni
                clear howni
                by_cases hik : i < K
                · go_wp2_with (at_builtin; refine app_int (v := u3) (ks := ks ++ List.replicate i r) rfl _ _ rfl w rfl r HV.out HI.out rfl (by rw [List.length_append, List.length_replicate]; omega) ?_)
                  intro v' w4 hown
                  have HO4 : Hid (OwnI w v' (ks ++ List.replicate (i + 1) r) w4) := Lib.hid (by rw [List.replicate_succ']; first | exact hown | (rw [← List.append_assoc]; exact hown))
                  clear hown
                  go_wp2_with fail
                  go_roundw
                  case rel => exact ⟨i + 1, by omega, by go_num, HO4.out⟩
                  case measure => simp [intOf]; omega
                · obtain rfl : i = K := by omega
                  go_wp2_with fail
                  subst hQ
                  go_wp2_with fail
                  go_roundw
                  case rel => exact ⟨p + i, ks ++ List.replicate i r, by omega, by go_num, by rw [List.length_append, List.length_replicate, hkl], HI.out, by rw [← HK.out, HS.out, List.append_assoc]⟩
                  case measure => simp [intOf]; omega
    · go_wp2
      go_ret
      refine ⟨_, rfl, ?_⟩
      have h0 : (L s).drop p = [] := List.drop_eq_nil_of_le (by rw [L_len]; omega)
      have := HK.out
      rw [h0, kindsP_nil, List.append_nil] at this
      rw [← this]
      exact HO.out
end Go.Proofs.YtigkdehaepenhaaGreatDoor.Q
