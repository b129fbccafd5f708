/-
  What the reference's Text returns: the same ten letters. Conditions: modes from 0 to 4095.
-/
import Derived.Test.YtigkdehaepenhaaGreatDoorFPMark
import Derived.Deep.CutRange
import Derived.Deep.DeepCutAuto
set_option linter.unusedSimpArgs false
set_option linter.unusedVariables false
namespace Go.Proofs.YtigkdehaepenhaaGreatDoor.P
open Go.RowKit

/-- Before the round for i: the letters of the classes above it are written. -/
def RRel (W : World) (kd m : Int) (s v : Value) (w : World) : Prop :=
  ∃ (j : Nat) (i : Int), j ≤ 3 ∧ i = 2 - (j : Int) ∧ v = .int .i64 i ∧ s = .string (txt (kindL kd ++ partL m j)) ∧ Below W.heap.size W w ∧ w.cell? ⟨W.heap.size, 3, none⟩ = some (.int .i64 m)
/-- What the quotients of a digit say of the mode's bits. -/
theorem bit_up {m d : Int} {j : Nat} (h : m / 8 ^ (2 - j) % 8 = d) : decide (d / 4 = 1) = bitB m (3 * (2 - j) + 2) ∧ decide (d / 2 % 2 = 1) = bitB m (3 * (2 - j) + 1) := by
  have hj : 2 - j = 0 ∨ 2 - j = 1 ∨ 2 - j = 2 := by omega
  unfold bitB
  rcases hj with e | e | e <;> rw [e] at h ⊢ <;> simp at h ⊢ <;> (constructor <;> omega)
theorem txt_one (S : List UInt8) (a : UInt8) : txt S ++ (⟨#[a]⟩ : ByteArray) = txt (S ++ [a]) := by
  rw [show (⟨#[a]⟩ : ByteArray) = txt [a] from rfl, txt_append]
theorem txt_two (S : List UInt8) (a b : UInt8) : txt S ++ ((⟨#[a]⟩ : ByteArray) ++ ⟨#[b]⟩) = txt (S ++ [a, b]) := by
  rw [show (⟨#[a]⟩ : ByteArray) = txt [a] from rfl, show (⟨#[b]⟩ : ByteArray) = txt [b] from rfl, txt_append, txt_append]
  rfl
def KS (W : World) (m : Int) (w : World) : Prop := Below W.heap.size W w ∧ w.cell? ⟨W.heap.size, 3, none⟩ = some (.int .i64 m)
theorem KS.drew {W : World} {m : Int} {w : World} (h : KS W m w) : KS W m w.drew := ⟨h.1.trans ⟨rfl, rfl, rfl, Nat.le_refl _, fun _ _ => rfl⟩, h.2⟩
theorem KS.alloc {W : World} {m : Int} {w : World} (h : KS W m w) (o : Obj) : KS W m (w.alloc o) := by
  have hlt : W.heap.size < w.heap.size := cell_lt h.2
  refine ⟨h.1.alloc (by omega) _, ?_⟩
  rw [World.cell?_alloc_old _ _ _ (by show W.heap.size ≠ w.heap.size; omega)]
  exact h.2
theorem partL_len (m : Int) (j : Nat) : (partL m j).length ≤ 9 := by unfold partL; split <;> exact Nat.le_of_ble_eq_true rfl

set_option maxHeartbeats 4000000 in
theorem refText_any (n : Nv) (w : World) (h0 : 0 ≤ n.mode) (h1 : n.mode < 4096) :
    Calls Tryz.prog 52 #[nodeV n] w fun e w' => e = .returned (.string (txt (textP n.kind n.mode))) ∧ Below w.heap.size w w' := by
  have HK := Lib.hid (refKind_any n)
  have HD := Lib.hid (fun (N : Nat) (i : Int) (h : i = (N : Int)) (hN : N ≤ 3) w => digitAt N i h hN n.mode w h0 h1)
  have HR := Lib.hid (show textP n.kind n.mode = kindL n.kind ++ partL n.mode 3 by unfold textP partL; simp)
  unfold nodeV at HK
  unfold nodeV
  have hs : Hid (0 ≤ n.mode / 8 ^ 3 % 8 ∧ n.mode / 8 ^ 3 % 8 < 8) := Lib.hid (by omega)
  obtain ⟨sp, hsp⟩ : ∃ sp, n.mode / 8 ^ 3 % 8 = sp := ⟨_, rfl⟩
  have HSP := Lib.hid hsp
  rw [hsp] at hs
  clear hsp
  go_enter Tryz.func52, Tryz.ntmps52
  go_wp2_with fail
  refine (HK.out _).mono ?_
  rintro e w1 ⟨rfl, hb1⟩
  have HB := Lib.hid (show Below w.heap.size w w1 from (show Below w.heap.size w _ from by (repeat (first | (with_reducible apply Below.setCell (hp := ?_)) | (with_reducible apply Below.alloc (hB := ?_)) | (with_reducible exact Below.refl _ _) | (simp; done) | omega))).trans (hb1.mono (by simp)))
  have hc : w1.cell? ⟨w.heap.size, 3, none⟩ = some (.int .i64 n.mode) := by rw [hb1.cell (by simp)]; go_simp
  clear hb1
  go_wp2_with fail
  refine (HD.out 3 3 rfl (by decide) _).mono ?_
  rintro e w' ⟨rfl, rfl⟩
  rw [HSP.out]
  have HC := Lib.hid hc
  clear hc
  go_wp2_with fail
  go_loopw [3, 5] (RRel w n.kind n.mode) (fun _ v _ => (intOf v + 1).toNat)
  case atStart => exact ⟨0, 2, by decide, rfl, rfl, by simp [partL], HB.out, HC.out⟩
  case round =>
    clear HB HC
    obtain ⟨j, i, hj, hi, rfl, rfl, hb, hc⟩ := hrel
    have HB := Lib.hid hb
    have hlt : w.heap.size < wr.heap.size := cell_lt hc
    clear hb
    by_cases h3 : j = 3
    · subst h3
      obtain rfl : i = -1 := by omega
      have HE := Lib.hid (show txt (kindL n.kind ++ partL n.mode 3) = txt (textP n.kind n.mode) by rw [HR.out])
      generalize txt (kindL n.kind ++ partL n.mode 3) = T0 at HE
      go_wp2_with fail
      go_ret
      exact ⟨by rw [← HE.out]; rfl, HB.out⟩
    · have hi0 : 0 ≤ i := by omega
      have hd := HD.out (2 - j) i (by omega) (by omega)
      obtain ⟨d, hdd, d0, d1⟩ : ∃ d, n.mode / 8 ^ (2 - j) % 8 = d ∧ 0 ≤ d ∧ d < 8 := ⟨_, rfl, by omega, by omega⟩
      rw [hdd] at hd
      have HDD := Lib.hid hdd
      have Hd := Lib.hid hd
      clear hdd hd
      obtain ⟨S, hS⟩ : ∃ S, kindL n.kind ++ partL n.mode j = S := ⟨_, rfl⟩
      have HSz : Hid (S.length ≤ 20) := Lib.hid (by rw [← hS, List.length_append, kindL_len]; have := partL_len n.mode j; omega)
      rw [hS]
      have HS := Lib.hid hS
      clear hS
      have HHi := Lib.hid hi
      have HJ := Lib.hid (show j ≤ 2 by omega)
      clear hi hj h3
      go_wp2_with fail
      refine (Hd.out _).mono ?_
      rintro e w' ⟨rfl, rfl⟩
      go_upto_region 7 with fail
      obtain ⟨b1, hb1⟩ : ∃ b : UInt8, (if bitB n.mode (3 * (2 - j) + 2) = true then (114 : UInt8) else 45) = b := ⟨_, rfl⟩
      obtain ⟨b2, hb2⟩ : ∃ b : UInt8, (if bitB n.mode (3 * (2 - j) + 1) = true then (119 : UInt8) else 45) = b := ⟨_, rfl⟩
      have B1 := Lib.hid hb1
      have B2 := Lib.hid hb2
      clear hb1 hb2
      go_cut [3] from 22 to 36 (fun a3 wx => a3 = .string (txt (S ++ [b1, b2])) ∧ KS w n.mode wx)
      case first =>
        have hp : d / 4 = 0 ∨ d / 4 = 1 := by omega
        have hq : d / 2 % 2 = 0 ∨ d / 2 % 2 = 1 := by omega
        have HP := Lib.hid (bit_up HDD.out)
        have hk : KS w n.mode wr := ⟨HB.out, hc⟩
        have HKs := Lib.hid hk
        have hsz := HSz.out
        rw [← txt_size] at hsz
        clear hk
        rcases hp with hp | hp
        · have h1 : b1 = 45 := by rw [← B1.out, ← HP.out.1, hp]; rfl
          rcases hq with hq | hq
          · have h2 : b2 = 45 := by rw [← B2.out, ← HP.out.2, hq]; rfl
            have H1 := Lib.hid h1
            have H2 := Lib.hid h2
            clear h1 h2
            go_region
            all_goals (
              go_wp2_with fail
              go_meet
              refine ⟨?_, ?_⟩
              · rw [H1.out, H2.out, ← txt_two]
              · repeat (first | (with_reducible exact HKs.out) | (with_reducible apply KS.drew) | (with_reducible apply KS.alloc)))
          · have h2 : b2 = 119 := by rw [← B2.out, ← HP.out.2, hq]; rfl
            have H1 := Lib.hid h1
            have H2 := Lib.hid h2
            clear h1 h2
            go_region
            all_goals (
              go_wp2_with fail
              go_meet
              refine ⟨?_, ?_⟩
              · rw [H1.out, H2.out, ← txt_two]
              · repeat (first | (with_reducible exact HKs.out) | (with_reducible apply KS.drew) | (with_reducible apply KS.alloc)))
        · have h1 : b1 = 114 := by rw [← B1.out, ← HP.out.1, hp]; rfl
          rcases hq with hq | hq
          · have h2 : b2 = 45 := by rw [← B2.out, ← HP.out.2, hq]; rfl
            have H1 := Lib.hid h1
            have H2 := Lib.hid h2
            clear h1 h2
            go_region
            all_goals (
              go_wp2_with fail
              go_meet
              refine ⟨?_, ?_⟩
              · rw [H1.out, H2.out, ← txt_two]
              · repeat (first | (with_reducible exact HKs.out) | (with_reducible apply KS.drew) | (with_reducible apply KS.alloc)))
          · have h2 : b2 = 119 := by rw [← B2.out, ← HP.out.2, hq]; rfl
            have H1 := Lib.hid h1
            have H2 := Lib.hid h2
            clear h1 h2
            go_region
            all_goals (
              go_wp2_with fail
              go_meet
              refine ⟨?_, ?_⟩
              · rw [H1.out, H2.out, ← txt_two]
              · repeat (first | (with_reducible exact HKs.out) | (with_reducible apply KS.drew) | (with_reducible apply KS.alloc)))
      case rest =>
        obtain ⟨rfl, hk2⟩ := hcut
        have hlt2 : w.heap.size < _ := cell_lt hk2.2
        have HK2 := Lib.hid hk2
        clear hk2 hc hlt HB HK
        have hj3 : j = 0 ∨ j = 1 ∨ j = 2 := by have := HJ.out; omega
        rcases hj3 with rfl | rfl | rfl
        · obtain rfl : i = 2 := by have := HHi.out; omega
          have HSb := Lib.hid (show decide (sp / 4 = 1) = bitB n.mode 11 by have := HSP.out; unfold bitB; simp at this ⊢; omega)
          have HDb := Lib.hid (show decide (d % 2 = 1) = bitB n.mode 6 by have := HDD.out; unfold bitB; simp at this ⊢; omega)
          have sp0 := hs.out.1
          have sp1 := hs.out.2
          have hsz := HSz.out
          have hsz2 : (txt (S ++ [b1, b2])).size ≤ 30 := by rw [txt_size]; simp; omega
          clear hsz
          by_cases hse : sp / 4 = 1
          · have ts : (sp / 4 == 1) = true := beq_iff_eq.2 hse
            have hb9 := Lib.hid (show bitB n.mode 11 = true by rw [← HSb.out]; exact decide_eq_true hse)
            clear hse
            by_cases hde : d % 2 = 1
            · have HL := Lib.hid (show lastL n.mode 6 11 115 83 = 115 by unfold lastL; rw [hb9.out, ← HDb.out, decide_eq_true hde]; rfl)
              go_wp2_with fail
              go_roundw
              case rel =>
                refine ⟨1, 1, by decide, by decide, rfl, ?_, ?_⟩
                · rw [txt_one, ← HL.out, ← HS.out, ← B1.out, ← B2.out]
                  simp [partL, clsL]
                · have hk3 := HK2.out
                  first
                    | exact hk3.alloc _
                    | trace_state
              case measure => decide
            · have hde : d % 2 = 0 := by omega
              have HL := Lib.hid (show lastL n.mode 6 11 115 83 = 83 by unfold lastL; rw [hb9.out, ← HDb.out, decide_eq_false (by omega)]; rfl)
              go_wp2_with fail
              go_roundw
              case rel =>
                refine ⟨1, 1, by decide, by decide, rfl, ?_, ?_⟩
                · rw [txt_one, ← HL.out, ← HS.out, ← B1.out, ← B2.out]
                  simp [partL, clsL]
                · have hk3 := HK2.out
                  first
                    | exact hk3.alloc _
                    | trace_state
              case measure => decide
          · have ts : (sp / 4 == 1) = false := beq_eq_false_iff_ne.2 hse
            have hb9 := Lib.hid (show bitB n.mode 11 = false by rw [← HSb.out]; exact decide_eq_false hse)
            clear hse
            by_cases hde : d % 2 = 1
            · have HL := Lib.hid (show lastL n.mode 6 11 115 83 = 120 by unfold lastL; rw [hb9.out, ← HDb.out, decide_eq_true hde]; rfl)
              go_wp2_with fail
              go_roundw
              case rel =>
                refine ⟨1, 1, by decide, by decide, rfl, ?_, ?_⟩
                · rw [txt_one, ← HL.out, ← HS.out, ← B1.out, ← B2.out]
                  simp [partL, clsL]
                · have hk3 := HK2.out
                  first
                    | exact hk3.alloc _
                    | trace_state
              case measure => decide
            · have hde : d % 2 = 0 := by omega
              have HL := Lib.hid (show lastL n.mode 6 11 115 83 = 45 by unfold lastL; rw [hb9.out, ← HDb.out, decide_eq_false (by omega)]; rfl)
              go_wp2_with fail
              go_roundw
              case rel =>
                refine ⟨1, 1, by decide, by decide, rfl, ?_, ?_⟩
                · rw [txt_one, ← HL.out, ← HS.out, ← B1.out, ← B2.out]
                  simp [partL, clsL]
                · have hk3 := HK2.out
                  first
                    | exact hk3.alloc _
                    | trace_state
              case measure => decide
        · obtain rfl : i = 1 := by have := HHi.out; omega
          have HSb := Lib.hid (show decide (sp / 2 % 2 = 1) = bitB n.mode 10 by have := HSP.out; unfold bitB; simp at this ⊢; omega)
          have HDb := Lib.hid (show decide (d % 2 = 1) = bitB n.mode 3 by have := HDD.out; unfold bitB; simp at this ⊢; omega)
          have sp0 := hs.out.1
          have sp1 := hs.out.2
          have hsz := HSz.out
          have hsz2 : (txt (S ++ [b1, b2])).size ≤ 30 := by rw [txt_size]; simp; omega
          clear hsz
          by_cases hse : sp / 2 % 2 = 1
          · have ts : (sp / 2 % 2 == 1) = true := beq_iff_eq.2 hse
            have hb9 := Lib.hid (show bitB n.mode 10 = true by rw [← HSb.out]; exact decide_eq_true hse)
            clear hse
            by_cases hde : d % 2 = 1
            · have HL := Lib.hid (show lastL n.mode 3 10 115 83 = 115 by unfold lastL; rw [hb9.out, ← HDb.out, decide_eq_true hde]; rfl)
              go_wp2_with fail
              go_roundw
              case rel =>
                refine ⟨2, 0, by decide, by decide, rfl, ?_, ?_⟩
                · rw [txt_one, ← HL.out, ← HS.out, ← B1.out, ← B2.out]
                  simp [partL, clsL]
                · have hk3 := HK2.out
                  first
                    | exact hk3.alloc _
                    | trace_state
              case measure => decide
            · have hde : d % 2 = 0 := by omega
              have HL := Lib.hid (show lastL n.mode 3 10 115 83 = 83 by unfold lastL; rw [hb9.out, ← HDb.out, decide_eq_false (by omega)]; rfl)
              go_wp2_with fail
              go_roundw
              case rel =>
                refine ⟨2, 0, by decide, by decide, rfl, ?_, ?_⟩
                · rw [txt_one, ← HL.out, ← HS.out, ← B1.out, ← B2.out]
                  simp [partL, clsL]
                · have hk3 := HK2.out
                  first
                    | exact hk3.alloc _
                    | trace_state
              case measure => decide
          · have ts : (sp / 2 % 2 == 1) = false := beq_eq_false_iff_ne.2 hse
            have hb9 := Lib.hid (show bitB n.mode 10 = false by rw [← HSb.out]; exact decide_eq_false hse)
            clear hse
            by_cases hde : d % 2 = 1
            · have HL := Lib.hid (show lastL n.mode 3 10 115 83 = 120 by unfold lastL; rw [hb9.out, ← HDb.out, decide_eq_true hde]; rfl)
              go_wp2_with fail
              go_roundw
              case rel =>
                refine ⟨2, 0, by decide, by decide, rfl, ?_, ?_⟩
                · rw [txt_one, ← HL.out, ← HS.out, ← B1.out, ← B2.out]
                  simp [partL, clsL]
                · have hk3 := HK2.out
                  first
                    | exact hk3.alloc _
                    | trace_state
              case measure => decide
            · have hde : d % 2 = 0 := by omega
              have HL := Lib.hid (show lastL n.mode 3 10 115 83 = 45 by unfold lastL; rw [hb9.out, ← HDb.out, decide_eq_false (by omega)]; rfl)
              go_wp2_with fail
              go_roundw
              case rel =>
                refine ⟨2, 0, by decide, by decide, rfl, ?_, ?_⟩
                · rw [txt_one, ← HL.out, ← HS.out, ← B1.out, ← B2.out]
                  simp [partL, clsL]
                · have hk3 := HK2.out
                  first
                    | exact hk3.alloc _
                    | trace_state
              case measure => decide
        · obtain rfl : i = 0 := by have := HHi.out; omega
          have HSb := Lib.hid (show decide (sp % 2 = 1) = bitB n.mode 9 by have := HSP.out; unfold bitB; simp at this ⊢; omega)
          have HDb := Lib.hid (show decide (d % 2 = 1) = bitB n.mode 0 by have := HDD.out; unfold bitB; simp at this ⊢; omega)
          have sp0 := hs.out.1
          have sp1 := hs.out.2
          have hsz := HSz.out
          have hsz2 : (txt (S ++ [b1, b2])).size ≤ 30 := by rw [txt_size]; simp; omega
          clear hsz
          by_cases hse : sp % 2 = 1
          · have ts : (sp % 2 == 1) = true := beq_iff_eq.2 hse
            have hb9 := Lib.hid (show bitB n.mode 9 = true by rw [← HSb.out]; exact decide_eq_true hse)
            clear hse
            by_cases hde : d % 2 = 1
            · have HL := Lib.hid (show lastL n.mode 0 9 116 84 = 116 by unfold lastL; rw [hb9.out, ← HDb.out, decide_eq_true hde]; rfl)
              go_wp2_with fail
              go_roundw
              case rel =>
                refine ⟨3, -1, by decide, by decide, rfl, ?_, ?_⟩
                · rw [txt_one, ← HL.out, ← HS.out, ← B1.out, ← B2.out]
                  simp [partL, clsL]
                · have hk3 := HK2.out
                  first
                    | exact hk3.alloc _
                    | trace_state
              case measure => decide
            · have hde : d % 2 = 0 := by omega
              have HL := Lib.hid (show lastL n.mode 0 9 116 84 = 84 by unfold lastL; rw [hb9.out, ← HDb.out, decide_eq_false (by omega)]; rfl)
              go_wp2_with fail
              go_roundw
              case rel =>
                refine ⟨3, -1, by decide, by decide, rfl, ?_, ?_⟩
                · rw [txt_one, ← HL.out, ← HS.out, ← B1.out, ← B2.out]
                  simp [partL, clsL]
                · have hk3 := HK2.out
                  first
                    | exact hk3.alloc _
                    | trace_state
              case measure => decide
          · have ts : (sp % 2 == 1) = false := beq_eq_false_iff_ne.2 hse
            have hb9 := Lib.hid (show bitB n.mode 9 = false by rw [← HSb.out]; exact decide_eq_false hse)
            clear hse
            by_cases hde : d % 2 = 1
            · have HL := Lib.hid (show lastL n.mode 0 9 116 84 = 120 by unfold lastL; rw [hb9.out, ← HDb.out, decide_eq_true hde]; rfl)
              go_wp2_with fail
              go_roundw
              case rel =>
                refine ⟨3, -1, by decide, by decide, rfl, ?_, ?_⟩
                · rw [txt_one, ← HL.out, ← HS.out, ← B1.out, ← B2.out]
                  simp [partL, clsL]
                · have hk3 := HK2.out
                  first
                    | exact hk3.alloc _
                    | trace_state
              case measure => decide
            · have hde : d % 2 = 0 := by omega
              have HL := Lib.hid (show lastL n.mode 0 9 116 84 = 45 by unfold lastL; rw [hb9.out, ← HDb.out, decide_eq_false (by omega)]; rfl)
              go_wp2_with fail
              go_roundw
              case rel =>
                refine ⟨3, -1, by decide, by decide, rfl, ?_, ?_⟩
                · rw [txt_one, ← HL.out, ← HS.out, ← B1.out, ← B2.out]
                  simp [partL, clsL]
                · have hk3 := HK2.out
                  first
                    | exact hk3.alloc _
                    | trace_state
              case measure => decide
end Go.Proofs.YtigkdehaepenhaaGreatDoor.P
