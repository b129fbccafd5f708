/-
  The reference's May. Conditions: modes from 0 to 4095, wants from 0 to 7.
-/
import Derived.Test.YtgnlbmpejkdoiaaDoorPRefM
set_option linter.unusedVariables false
namespace Go.Proofs.YtgnlbmpejkdoiaaDoor
open Go.RowKit

theorem seven_dec : ∀ b : Fin 8, mayB 7 (b.val : Int) = true := by decide
theorem six_dec : ∀ b : Fin 8, mayB 6 (b.val : Int) = ((b.val : Int) % 2 == 0) := by decide
theorem may_seven (t : Int) (h2 : 0 ≤ t) (h3 : t < 8) : mayB 7 t = true := by
  have := seven_dec ⟨t.toNat, by omega⟩
  simp only at this
  rw [Int.toNat_of_nonneg h2] at this
  exact this
theorem may_six (t : Int) (h2 : 0 ≤ t) (h3 : t < 8) : mayB 6 t = (t % 2 == 0) := by
  have := six_dec ⟨t.toNat, by omega⟩
  simp only at this
  rw [Int.toNat_of_nonneg h2] at this
  exact this
theorem bit_low {a b : Int} (h : a % 8 = b % 8) (k : Nat) (hk : k ≤ 2) : bitB a k = bitB b k := by
  unfold bitB
  have e : a / 2 ^ k % 2 = b / 2 ^ k % 2 := by
    have : k = 0 ∨ k = 1 ∨ k = 2 := by omega
    rcases this with rfl | rfl | rfl <;> simp <;> omega
  rw [e]
theorem may_low {a b s t : Int} (h : a % 8 = b % 8) (h' : s % 8 = t % 8) : mayB a s = mayB b t := by
  unfold mayB
  rw [bit_low h 0 (by decide), bit_low h 1 (by decide), bit_low h 2 (by decide), bit_low h' 0 (by decide), bit_low h' 1 (by decide), bit_low h' 2 (by decide)]

set_option maxHeartbeats 1000000 in
theorem refMay_any (n : Nv) (u g t : Int) (w : World) (h0 : 0 ≤ n.mode) (h1 : n.mode < 4096) (h2 : 0 ≤ t) (h3 : t < 8) :
    Calls Tryd.prog 8 #[nodeV n, credV u g, .int .i64 t] w fun e w' => e = .returned (.bool (mayB (bitsP n u g) t)) ∧ Below w.heap.size w w' := by
  have HX := Lib.hid (fun w => anyX_any n.mode w h0 h1)
  unfold nodeV credV
  by_cases hu0 : u = 0
  · subst hu0
    by_cases ht : t % 2 = 0
    · have HR := Lib.hid (show mayB (bitsP n 0 g) t = true by
        unfold bitsP; rw [if_pos rfl]; split
        · exact may_seven t h2 h3
        · rw [may_six t h2 h3, ht]; rfl)
      have tt : (t % 2 == 0) = true := by rw [ht]; rfl
      clear ht
      go_enter Tryd.func8, Tryd.ntmps8
      go_wp2
      go_ret
      exact ⟨ret_bool HR.out.symm, by (repeat (first | (with_reducible apply Below.setCell (hp := ?_)) | (with_reducible apply Below.alloc (hB := ?_)) | (with_reducible exact Below.refl _ _) | (simp; done) | omega))⟩
    · have tt : (t % 2 == 0) = false := beq_eq_false_iff_ne.2 ht
      have H6 := Lib.hid (show mayB 6 t = false by rw [may_six t h2 h3]; exact tt)
      clear ht
      by_cases hk : n.kind = 2
      · have HR := Lib.hid (show mayB (bitsP n 0 g) t = true by
          unfold bitsP; rw [if_pos rfl, if_pos (.inl hk)]; exact may_seven t h2 h3)
        have tk : (n.kind == 2) = true := beq_iff_eq.2 hk
        clear hk
        go_enter Tryd.func8, Tryd.ntmps8
        go_wp2
        go_ret
        exact ⟨ret_bool HR.out.symm, by (repeat (first | (with_reducible apply Below.setCell (hp := ?_)) | (with_reducible apply Below.alloc (hB := ?_)) | (with_reducible exact Below.refl _ _) | (simp; done) | omega))⟩
      · have HR := Lib.hid (show mayB (bitsP n 0 g) t = anyB n.mode by
          unfold bitsP; rw [if_pos rfl]
          cases ha : anyB n.mode
          · rw [if_neg (by simp [hk]), H6.out]
          · rw [if_pos (.inr rfl), may_seven t h2 h3])
        have tk : (n.kind == 2) = false := beq_eq_false_iff_ne.2 hk
        clear hk
        go_enter Tryd.func8, Tryd.ntmps8
        go_wp2_with fail
        refine (HX.out _).mono ?_
        rintro e w' ⟨rfl, rfl⟩
        go_wp2_with fail
        go_ret
        exact ⟨ret_bool HR.out.symm, by (repeat (first | (with_reducible apply Below.setCell (hp := ?_)) | (with_reducible apply Below.alloc (hB := ?_)) | (with_reducible exact Below.refl _ _) | (simp; done) | omega))⟩
  · have t0 : (u == 0) = false := beq_eq_false_iff_ne.2 hu0
    by_cases hu : u = n.uid
    · have HR := Lib.hid (show mayB (bitsP n u g) t = mayB (n.mode / 8 ^ 2 % 8) t by unfold bitsP; rw [if_neg hu0, if_pos hu]; exact may_low (by simp) rfl)
      have HH := Lib.hid (fun w => has_any (n.mode / 8 ^ 2 % 8) t w (by omega) (by omega) h2 h3)
      have t1 : (u == n.uid) = true := beq_iff_eq.2 hu
      have HD := Lib.hid (fun w => digitAt 2 2 rfl (by decide) n.mode w h0 h1)
      obtain ⟨d, hd⟩ : ∃ d, n.mode / 8 ^ 2 % 8 = d := ⟨_, rfl⟩
      rw [hd] at HD HH HR
      clear hd
      clear hu hu0
      go_enter Tryd.func8, Tryd.ntmps8
      go_wp2_with fail
      refine (HD.out _).mono ?_
      rintro e w' ⟨rfl, rfl⟩
      go_wp2_with fail
      refine (HH.out _).mono ?_
      rintro e w' ⟨rfl, rfl⟩
      go_wp2_with fail
      go_ret
      exact ⟨ret_bool HR.out.symm, by (repeat (first | (with_reducible apply Below.setCell (hp := ?_)) | (with_reducible apply Below.alloc (hB := ?_)) | (with_reducible exact Below.refl _ _) | (simp; done) | omega))⟩
    · have t1 : (u == n.uid) = false := beq_eq_false_iff_ne.2 hu
      by_cases hg : g = n.gid
      · have HR := Lib.hid (show mayB (bitsP n u g) t = mayB (n.mode / 8 ^ 1 % 8) t by unfold bitsP; rw [if_neg hu0, if_neg hu, if_pos hg]; exact may_low (by simp) rfl)
        have HH := Lib.hid (fun w => has_any (n.mode / 8 ^ 1 % 8) t w (by omega) (by omega) h2 h3)
        have t3 : (g == n.gid) = true := beq_iff_eq.2 hg
        have HD := Lib.hid (fun w => digitAt 1 1 rfl (by decide) n.mode w h0 h1)
        obtain ⟨d, hd⟩ : ∃ d, n.mode / 8 ^ 1 % 8 = d := ⟨_, rfl⟩
        rw [hd] at HD HH HR
        clear hd
        clear hu hu0 hg
        go_enter Tryd.func8, Tryd.ntmps8
        go_wp2_with fail
        refine (HD.out _).mono ?_
        rintro e w' ⟨rfl, rfl⟩
        go_wp2_with fail
        refine (HH.out _).mono ?_
        rintro e w' ⟨rfl, rfl⟩
        go_wp2_with fail
        go_ret
        exact ⟨ret_bool HR.out.symm, by (repeat (first | (with_reducible apply Below.setCell (hp := ?_)) | (with_reducible apply Below.alloc (hB := ?_)) | (with_reducible exact Below.refl _ _) | (simp; done) | omega))⟩
      · have HR := Lib.hid (show mayB (bitsP n u g) t = mayB (n.mode / 8 ^ 0 % 8) t by unfold bitsP; rw [if_neg hu0, if_neg hu, if_neg hg]; exact may_low (by simp) rfl)
        have HH := Lib.hid (fun w => has_any (n.mode / 8 ^ 0 % 8) t w (by omega) (by omega) h2 h3)
        have t3 : (g == n.gid) = false := beq_eq_false_iff_ne.2 hg
        have HD := Lib.hid (fun w => digitAt 0 0 rfl (by decide) n.mode w h0 h1)
        obtain ⟨d, hd⟩ : ∃ d, n.mode / 8 ^ 0 % 8 = d := ⟨_, rfl⟩
        rw [hd] at HD HH HR
        clear hd
        clear hu hu0 hg
        go_enter Tryd.func8, Tryd.ntmps8
        go_wp2_with fail
        refine (HD.out _).mono ?_
        rintro e w' ⟨rfl, rfl⟩
        go_wp2_with fail
        refine (HH.out _).mono ?_
        rintro e w' ⟨rfl, rfl⟩
        go_wp2_with fail
        go_ret
        exact ⟨ret_bool HR.out.symm, by (repeat (first | (with_reducible apply Below.setCell (hp := ?_)) | (with_reducible apply Below.alloc (hB := ?_)) | (with_reducible exact Below.refl _ _) | (simp; done) | omega))⟩
end Go.Proofs.YtgnlbmpejkdoiaaDoor
