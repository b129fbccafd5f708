/-
  The reference's digits, anyX, has and May. Conditions: modes from 0 to 4095, wants from 0 to 7.
-/
import Derived.Test.YtcjbnjoomgagjaaGreatDoorKPMay
set_option linter.unusedVariables false
namespace Go.Proofs.YtcjbnjoomgagjaaGreatDoor.P
open Go.RowKit
theorem div_step (m : Int) (k : Nat) : m / 8 ^ k / 8 = m / 8 ^ (k + 1) := by
  rw [Int.ediv_ediv_of_nonneg (Int.le_of_lt (Int.pow_pos (by decide))), Int.pow_succ]
def DRel (m : Int) (N : Nat) (v i : Value) : Prop := ∃ (k : Nat) (x : Int), k ≤ N ∧ i = .int .i64 (k : Int) ∧ v = .int .i64 x ∧ 0 ≤ x ∧ x ≤ 4095 ∧ Hid (x = m / 8 ^ k)
set_option maxHeartbeats 1000000 in
theorem digit_any (m : Int) (N : Nat) (w : World) (hN : N ≤ 3) (h0 : 0 ≤ m) (h1 : m < 4096) :
    Calls Tryz.prog 59 #[.int .i64 m, .int .i64 (N : Int)] w fun e w' => e = .returned (.int .i64 (m / 8 ^ N % 8)) ∧ w = w' := by
  go_enter Tryz.func59, Tryz.ntmps59
  go_wp2
  go_loop [0, 5] (DRel m N) (fun _ i => N - (intOf i).toNat)
  case atStart => exact ⟨0, m, by omega, rfl, rfl, h0, by omega, Lib.hid (by simp)⟩
  case round =>
    obtain ⟨k, x, hk, rfl, rfl, x0, x1, hx⟩ := hrel
    clear h0 h1
    by_cases hd : k < N
    · have hd' : decide ((k : Int) < (N : Int)) = true := by simpa using hd
      have hx2 : Hid (x / 8 = m / 8 ^ (k + 1)) := Lib.hid (by rw [hx.out, div_step])
      go_wp2
      go_round
      case rel => exact ⟨k + 1, x / 8, by omega, by simp, rfl, by omega, by omega, hx2⟩
      case measure => simp [intOf]; omega
    · have hd' : decide ((k : Int) < (N : Int)) = false := by simpa using hd
      have hk' : k = N := by omega
      have hx2 : Hid (x % 8 = m / 8 ^ N % 8) := Lib.hid (by rw [hx.out, hk'])
      clear hk' hk
      go_wp2
      go_ret
      exact ⟨pret_int hx2.out, rfl⟩
theorem digitAt (N : Nat) (i : Int) (h : i = (N : Int)) (hN : N ≤ 3) (m : Int) (w : World) (h0 : 0 ≤ m) (h1 : m < 4096) :
    Calls Tryz.prog 59 #[.int .i64 m, .int .i64 i] w fun e w' => e = .returned (.int .i64 (m / 8 ^ N % 8)) ∧ w = w' := by subst h; exact digit_any m N w hN h0 h1
theorem bit_digit (m : Int) (N : Nat) (hN : N ≤ 2) : ((m / 8 ^ N % 8 % 2 : Int) == 1) = bitB m (3 * N) := by
  have e : (m / 8 ^ N % 8 % 2 : Int) = m / 2 ^ (3 * N) % 2 := by
    have : N = 0 ∨ N = 1 ∨ N = 2 := by omega
    rcases this with rfl | rfl | rfl <;> simp <;> omega
  rw [e]
  unfold bitB
  by_cases h : m / 2 ^ (3 * N) % 2 = 1
  · rw [decide_eq_true h, h]; rfl
  · rw [decide_eq_false h]; exact beq_eq_false_iff_ne.2 h
set_option maxHeartbeats 1000000 in
theorem anyX_any (m : Int) (w : World) (h0 : 0 ≤ m) (h1 : m < 4096) :
    Calls Tryz.prog 57 #[.int .i64 m] w fun e w' => e = .returned (.bool (anyB m)) ∧ w = w' := by
  have HA := Lib.hid (show (bitB m 0 || bitB m 3 || bitB m 6) = anyB m by unfold anyB; cases bitB m 0 <;> cases bitB m 3 <;> cases bitB m 6 <;> rfl)
  have c0 := fun w => digitAt 0 0 rfl (by decide) m w h0 h1
  have c1 := fun w => digitAt 1 1 rfl (by decide) m w h0 h1
  have c2 := fun w => digitAt 2 2 rfl (by decide) m w h0 h1
  obtain ⟨d0, e0, p0, q0⟩ : ∃ d, m / 8 ^ 0 % 8 = d ∧ 0 ≤ d ∧ d < 8 := ⟨_, rfl, by omega, by omega⟩
  obtain ⟨d1, e1, p1, q1⟩ : ∃ d, m / 8 ^ 1 % 8 = d ∧ 0 ≤ d ∧ d < 8 := ⟨_, rfl, by omega, by omega⟩
  obtain ⟨d2, e2, p2, q2⟩ : ∃ d, m / 8 ^ 2 % 8 = d ∧ 0 ≤ d ∧ d < 8 := ⟨_, rfl, by omega, by omega⟩
  have b0 := bit_digit m 0 (by decide)
  have b1 := bit_digit m 1 (by decide)
  have b2 := bit_digit m 2 (by decide)
  rw [e0] at b0 c0
  rw [e1] at b1 c1
  rw [e2] at b2 c2
  clear e0 e1 e2
  have C0 := Lib.hid c0
  have C1 := Lib.hid c1
  have C2 := Lib.hid c2
  clear c0 c1 c2 h0 h1
  cases k0 : bitB m 0
  · cases k1 : bitB m 3
    · have HR := Lib.hid (show bitB m 6 = anyB m by rw [← HA.out, k0, k1]; rfl)
      rw [show 3 * 0 = 0 from rfl, k0] at b0
      rw [show 3 * 1 = 3 from rfl, k1] at b1
      have B2 := Lib.hid b2
      clear b2 k0 k1
      go_enter Tryz.func57, Tryz.ntmps57
      go_wp2_with fail
      refine (C0.out _).mono ?_
      rintro e w' ⟨rfl, rfl⟩
      go_wp2_with fail
      refine (C1.out _).mono ?_
      rintro e w' ⟨rfl, rfl⟩
      go_wp2_with fail
      refine (C2.out _).mono ?_
      rintro e w' ⟨rfl, rfl⟩
      go_wp2_with fail
      go_ret
      exact ⟨pret_bool (B2.out.trans HR.out), rfl⟩
    · have HR := Lib.hid (show true = anyB m by rw [← HA.out, k0, k1]; rfl)
      rw [show 3 * 0 = 0 from rfl, k0] at b0
      rw [show 3 * 1 = 3 from rfl, k1] at b1
      clear b2 k0 k1
      go_enter Tryz.func57, Tryz.ntmps57
      go_wp2_with fail
      refine (C0.out _).mono ?_
      rintro e w' ⟨rfl, rfl⟩
      go_wp2_with fail
      refine (C1.out _).mono ?_
      rintro e w' ⟨rfl, rfl⟩
      go_wp2_with fail
      go_ret
      exact ⟨pret_bool HR.out, rfl⟩
  · have HR := Lib.hid (show true = anyB m by rw [← HA.out, k0]; rfl)
    rw [show 3 * 0 = 0 from rfl, k0] at b0
    clear b1 b2 k0
    go_enter Tryz.func57, Tryz.ntmps57
    go_wp2_with fail
    refine (C0.out _).mono ?_
    rintro e w' ⟨rfl, rfl⟩
    go_wp2_with fail
    go_ret
    exact ⟨pret_bool HR.out, rfl⟩
theorem may_dec : ∀ a b : Fin 8, mayB (a.val : Int) (b.val : Int) = (decide ((b.val : Int) / 4 ≤ (a.val : Int) / 4) && (decide ((b.val : Int) / 2 % 2 ≤ (a.val : Int) / 2 % 2) && decide ((b.val : Int) % 2 ≤ (a.val : Int) % 2))) := by decide
theorem may_has (s t : Int) (h0 : 0 ≤ s) (h1 : s < 8) (h2 : 0 ≤ t) (h3 : t < 8) : mayB s t = (decide (t / 4 ≤ s / 4) && (decide (t / 2 % 2 ≤ s / 2 % 2) && decide (t % 2 ≤ s % 2))) := by
  have := may_dec ⟨s.toNat, by omega⟩ ⟨t.toNat, by omega⟩
  simp only at this
  rw [Int.toNat_of_nonneg h0, Int.toNat_of_nonneg h2] at this
  exact this
set_option maxHeartbeats 1000000 in
theorem has_any (s t : Int) (w : World) (h0 : 0 ≤ s) (h1 : s < 8) (h2 : 0 ≤ t) (h3 : t < 8) :
    Calls Tryz.prog 58 #[.int .i64 s, .int .i64 t] w fun e w' => e = .returned (.bool (mayB s t)) ∧ w = w' := by
  have HR := Lib.hid (may_has s t h0 h1 h2 h3)
  go_enter Tryz.func58, Tryz.ntmps58
  go_wp2
  all_goals go_ret
  · refine ⟨pret_bool ?_, rfl⟩
    rw [HR.out, decide_eq_true (show t / 4 ≤ s / 4 by assumption), decide_eq_true (show t / 2 % 2 ≤ s / 2 % 2 by assumption)]
    rfl
  · refine ⟨pret_bool ?_, rfl⟩
    rw [HR.out, decide_eq_true (show t / 4 ≤ s / 4 by assumption), decide_eq_false (show ¬ (t / 2 % 2 ≤ s / 2 % 2) by omega)]
    rfl
  · refine ⟨pret_bool ?_, rfl⟩
    rw [HR.out, decide_eq_false (show ¬ (t / 4 ≤ s / 4) by omega)]
    rfl
end Go.Proofs.YtcjbnjoomgagjaaGreatDoor.P
namespace Go.Proofs.YtcjbnjoomgagjaaGreatDoor.P
open Go.RowKit
theorem seven_dec : ∀ b : Fin 8, mayB 7 (b.val : Int) = true := by decide
theorem six_dec : ∀ b : Fin 8, mayB 6 (b.val : Int) = ((b.val : Int) % 2 == 0) := by decide
theorem may_seven (t : Int) (h2 : 0 ≤ t) (h3 : t < 8) : mayB 7 t = true := by
  have := seven_dec ⟨t.toNat, by omega⟩
  simp only at this
  rw [Int.toNat_of_nonneg h2] at this
  exact this
theorem may_six (t : Int) (h2 : 0 ≤ t) (h3 : t < 8) : mayB 6 t = (t % 2 == 0) := by
  have := six_dec ⟨t.toNat, by omega⟩
  simp only at this
  rw [Int.toNat_of_nonneg h2] at this
  exact this
theorem bit_low {a b : Int} (h : a % 8 = b % 8) (k : Nat) (hk : k ≤ 2) : bitB a k = bitB b k := by
  unfold bitB
  have e : a / 2 ^ k % 2 = b / 2 ^ k % 2 := by
    have : k = 0 ∨ k = 1 ∨ k = 2 := by omega
    rcases this with rfl | rfl | rfl <;> simp <;> omega
  rw [e]
theorem may_low {a b s t : Int} (h : a % 8 = b % 8) (h' : s % 8 = t % 8) : mayB a s = mayB b t := by
  unfold mayB
  rw [bit_low h 0 (by decide), bit_low h 1 (by decide), bit_low h 2 (by decide), bit_low h' 0 (by decide), bit_low h' 1 (by decide), bit_low h' 2 (by decide)]
set_option maxHeartbeats 1000000 in
theorem refMay_any (n : Nv) (u g t : Int) (w : World) (h0 : 0 ≤ n.mode) (h1 : n.mode < 4096) (h2 : 0 ≤ t) (h3 : t < 8) :
    Calls Tryz.prog 36 #[nodeV n, credV u g, .int .i64 t] w fun e w' => e = .returned (.bool (mayB (bitsP n u g) t)) ∧ Below w.heap.size w w' := by
  have HX := Lib.hid (fun w => anyX_any n.mode w h0 h1)
  unfold nodeV credV
  by_cases hu0 : u = 0
  · subst hu0
    by_cases ht : t % 2 = 0
    · have HR := Lib.hid (show mayB (bitsP n 0 g) t = true by
        unfold bitsP; rw [if_pos rfl]; split
        · exact may_seven t h2 h3
        · rw [may_six t h2 h3, ht]; rfl)
      have tt : (t % 2 == 0) = true := by rw [ht]; rfl
      clear ht
      go_enter Tryz.func36, Tryz.ntmps36
      go_wp2
      go_ret
      exact ⟨pret_bool HR.out.symm, by (repeat (first | (with_reducible apply Below.setCell (hp := ?_)) | (with_reducible apply Below.alloc (hB := ?_)) | (with_reducible exact Below.refl _ _) | (simp; done) | omega))⟩
    · have tt : (t % 2 == 0) = false := beq_eq_false_iff_ne.2 ht
      have H6 := Lib.hid (show mayB 6 t = false by rw [may_six t h2 h3]; exact tt)
      clear ht
      by_cases hk : n.kind = 2
      · have HR := Lib.hid (show mayB (bitsP n 0 g) t = true by
          unfold bitsP; rw [if_pos rfl, if_pos (.inl hk)]; exact may_seven t h2 h3)
        have tk : (n.kind == 2) = true := beq_iff_eq.2 hk
        clear hk
        go_enter Tryz.func36, Tryz.ntmps36
        go_wp2
        go_ret
        exact ⟨pret_bool HR.out.symm, by (repeat (first | (with_reducible apply Below.setCell (hp := ?_)) | (with_reducible apply Below.alloc (hB := ?_)) | (with_reducible exact Below.refl _ _) | (simp; done) | omega))⟩
      · have HR := Lib.hid (show mayB (bitsP n 0 g) t = anyB n.mode by
          unfold bitsP; rw [if_pos rfl]
          cases ha : anyB n.mode
          · rw [if_neg (by simp [hk]), H6.out]
          · rw [if_pos (.inr rfl), may_seven t h2 h3])
        have tk : (n.kind == 2) = false := beq_eq_false_iff_ne.2 hk
        clear hk
        go_enter Tryz.func36, Tryz.ntmps36
        go_wp2_with fail
        refine (HX.out _).mono ?_
        rintro e w' ⟨rfl, rfl⟩
        go_wp2_with fail
        go_ret
        exact ⟨pret_bool HR.out.symm, by (repeat (first | (with_reducible apply Below.setCell (hp := ?_)) | (with_reducible apply Below.alloc (hB := ?_)) | (with_reducible exact Below.refl _ _) | (simp; done) | omega))⟩
  · have t0 : (u == 0) = false := beq_eq_false_iff_ne.2 hu0
    by_cases hu : u = n.uid
    · have HR := Lib.hid (show mayB (bitsP n u g) t = mayB (n.mode / 8 ^ 2 % 8) t by unfold bitsP; rw [if_neg hu0, if_pos hu]; exact may_low (by simp) rfl)
      have HH := Lib.hid (fun w => has_any (n.mode / 8 ^ 2 % 8) t w (by omega) (by omega) h2 h3)
      have t1 : (u == n.uid) = true := beq_iff_eq.2 hu
      have HD := Lib.hid (fun w => digitAt 2 2 rfl (by decide) n.mode w h0 h1)
      obtain ⟨d, hd⟩ : ∃ d, n.mode / 8 ^ 2 % 8 = d := ⟨_, rfl⟩
      rw [hd] at HD HH HR
      clear hd
      clear hu hu0
      go_enter Tryz.func36, Tryz.ntmps36
      go_wp2_with fail
      refine (HD.out _).mono ?_
      rintro e w' ⟨rfl, rfl⟩
      go_wp2_with fail
      refine (HH.out _).mono ?_
      rintro e w' ⟨rfl, rfl⟩
      go_wp2_with fail
      go_ret
      exact ⟨pret_bool HR.out.symm, by (repeat (first | (with_reducible apply Below.setCell (hp := ?_)) | (with_reducible apply Below.alloc (hB := ?_)) | (with_reducible exact Below.refl _ _) | (simp; done) | omega))⟩
    · have t1 : (u == n.uid) = false := beq_eq_false_iff_ne.2 hu
      by_cases hg : g = n.gid
      · have HR := Lib.hid (show mayB (bitsP n u g) t = mayB (n.mode / 8 ^ 1 % 8) t by unfold bitsP; rw [if_neg hu0, if_neg hu, if_pos hg]; exact may_low (by simp) rfl)
        have HH := Lib.hid (fun w => has_any (n.mode / 8 ^ 1 % 8) t w (by omega) (by omega) h2 h3)
        have t3 : (g == n.gid) = true := beq_iff_eq.2 hg
        have HD := Lib.hid (fun w => digitAt 1 1 rfl (by decide) n.mode w h0 h1)
        obtain ⟨d, hd⟩ : ∃ d, n.mode / 8 ^ 1 % 8 = d := ⟨_, rfl⟩
        rw [hd] at HD HH HR
        clear hd
        clear hu hu0 hg
        go_enter Tryz.func36, Tryz.ntmps36
        go_wp2_with fail
        refine (HD.out _).mono ?_
        rintro e w' ⟨rfl, rfl⟩
        go_wp2_with fail
        refine (HH.out _).mono ?_
        rintro e w' ⟨rfl, rfl⟩
        go_wp2_with fail
        go_ret
        exact ⟨pret_bool HR.out.symm, by (repeat (first | (with_reducible apply Below.setCell (hp := ?_)) | (with_reducible apply Below.alloc (hB := ?_)) | (with_reducible exact Below.refl _ _) | (simp; done) | omega))⟩
      · have HR := Lib.hid (show mayB (bitsP n u g) t = mayB (n.mode / 8 ^ 0 % 8) t by unfold bitsP; rw [if_neg hu0, if_neg hu, if_neg hg]; exact may_low (by simp) rfl)
        have HH := Lib.hid (fun w => has_any (n.mode / 8 ^ 0 % 8) t w (by omega) (by omega) h2 h3)
        have t3 : (g == n.gid) = false := beq_eq_false_iff_ne.2 hg
        have HD := Lib.hid (fun w => digitAt 0 0 rfl (by decide) n.mode w h0 h1)
        obtain ⟨d, hd⟩ : ∃ d, n.mode / 8 ^ 0 % 8 = d := ⟨_, rfl⟩
        rw [hd] at HD HH HR
        clear hd
        clear hu hu0 hg
        go_enter Tryz.func36, Tryz.ntmps36
        go_wp2_with fail
        refine (HD.out _).mono ?_
        rintro e w' ⟨rfl, rfl⟩
        go_wp2_with fail
        refine (HH.out _).mono ?_
        rintro e w' ⟨rfl, rfl⟩
        go_wp2_with fail
        go_ret
        exact ⟨pret_bool HR.out.symm, by (repeat (first | (with_reducible apply Below.setCell (hp := ?_)) | (with_reducible apply Below.alloc (hB := ?_)) | (with_reducible exact Below.refl _ _) | (simp; done) | omega))⟩
end Go.Proofs.YtcjbnjoomgagjaaGreatDoor.P
