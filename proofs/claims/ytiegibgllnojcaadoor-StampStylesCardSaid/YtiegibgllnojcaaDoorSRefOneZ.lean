/-
  What the reference's One writes of z. Conditions: the date's numbers are within their bounds.
-/
import Derived.Test.YtiegibgllnojcaaDoorSRefOne
set_option linter.unusedVariables false
namespace Go.Proofs.YtiegibgllnojcaaDoor
open Go.RowKit

/-- An offset's parts, as the reference has them. -/
theorem rzone_parts (o : Int) : ∃ q m : Int, max (min o 86400) (-86400) = q ∧ (o < 0 → q < 0 ∧ -q = m) ∧ (¬ o < 0 → 0 ≤ q ∧ q = m) ∧ 0 ≤ m ∧ m ≤ 86400 ∧ m.toNat = (offB o).natAbs ∧ -86400 ≤ q ∧ q ≤ 86400 := by
  have e : max (min o 86400) (-86400) = offB o := by unfold offB; split; omega; split <;> omega
  rw [e]
  have := offB_bd o
  have hs : (o < 0 → offB o < 0) ∧ (¬ o < 0 → 0 ≤ offB o) := by
    unfold offB
    split
    · omega
    · split <;> omega
  by_cases h : o < 0
  · exact ⟨offB o, -offB o, rfl, fun _ => ⟨hs.1 h, rfl⟩, fun n => absurd h n, by have := hs.1 h; omega, by omega, by have := hs.1 h; omega, by omega, by omega⟩
  · exact ⟨offB o, offB o, rfl, fun n => absurd n h, fun _ => ⟨hs.2 h, rfl⟩, hs.2 h, by omega, by have := hs.2 h; omega, by omega, by omega⟩
theorem slash_parts (m : Int) (h0 : 0 ≤ m) (h1 : m ≤ 86400) : ∃ H Z M : Int, Int.tdiv m 3600 = H ∧ Int.tdiv m 60 = Z ∧ Int.tmod Z 60 = M ∧ 0 ≤ H ∧ H < 100 ∧ 0 ≤ M ∧ M < 100 ∧ 0 ≤ Z ∧ Z ≤ 1440 ∧ H.toNat = m.toNat / 3600 ∧ M.toNat = m.toNat / 60 % 60 := by
  have e1 : Int.tdiv m 3600 = m / 3600 := Int.tdiv_eq_ediv_of_nonneg h0
  have e2 : Int.tdiv m 60 = m / 60 := Int.tdiv_eq_ediv_of_nonneg h0
  have e3 : Int.tmod (m / 60) 60 = m / 60 % 60 := Int.tmod_eq_emod_of_nonneg (by omega)
  exact ⟨_, _, _, e1, e2, e3, by omega, by omega, by omega, by omega, by omega, by omega, by omega, by omega⟩
theorem three_add (P : Program) (s : UInt8) (a b : List UInt8) (ha : a.length ≤ 20) (hb : b.length ≤ 20) : ∃ b1 b2 : ByteArray,
    (∀ w : World, (Op.stringOp .add ⟨#[s]⟩ (txt a)).run P w = .ok (.string b1) w) ∧ (∀ w : World, (Op.stringOp .add b1 (txt b)).run P w = .ok (.string b2) w) ∧ Hid (b2 = txt (s :: (a ++ b))) := by
  have e : (⟨#[s]⟩ : ByteArray) = txt [s] := rfl
  rw [e]
  refine ⟨txt ([s] ++ a), txt ([s] ++ a ++ b), fun w => ?_, fun w => ?_, Lib.hid (by simp)⟩
  all_goals rw [run_string_add_sum _ _ _ (by simp only [txt_size, List.length_append, List.length_cons, List.length_nil]; omega), txt_append]

set_option maxHeartbeats 4000000 in
set_option maxRecDepth 100000 in
theorem one_z (t o y m d h i s wd yd : Int) (B : TellBd t o y m d h i s wd yd) (hv : dateV (t + offB o) = dv y m d h i s wd yd) (w : World) :
    Calls Tryd.prog 24 #[.int .u8 122, .int .i64 t, .int .i64 o] w fun e w' => e = .returned (.tuple #[.string (txt (zoneL o)), .bool true]) ∧ Below w.heap.size w w' := by
  obtain ⟨q, z, hq, hneg, hpos, z0, z1, hz, q0, q1⟩ := rzone_parts o
  obtain ⟨H, Z, M, e1, e2, e3, H0, H1, M0, M1, Z0, Z1, eH, eM⟩ := slash_parts z z0 z1
  have HL : Hid (∀ sg : UInt8, (o < 0 → sg = 45) → (¬ o < 0 → sg = 43) → txt (sg :: (twoL H.toNat ++ twoL M.toNat)) = txt (zoneL o)) := Lib.hid (fun sg h1 h2 => by
    unfold zoneL
    rw [eH, eM, hz]
    by_cases ho : o < 0
    · rw [if_pos ho, h1 ho]
    · rw [if_neg ho, h2 ho])
  have cO := refOf_any t o w B.t0 B.t1
  rw [hv, agg_of] at cO
  clear B hv hz eH eM
  by_cases ho : o < 0
  · obtain ⟨g1, g2⟩ := hneg ho
    obtain ⟨b1, b2, a1, a2, HE⟩ := three_add Tryd.prog 45 (twoL H.toNat) (twoL M.toNat) (by rw [two_len]; omega) (by rw [two_len]; omega)
    have HE2 := Lib.hid (HE.out.trans (HL.out 45 (fun _ => rfl) (fun n => absurd ho n)))
    clear HL HE hneg hpos
    go_enter Tryd.func24, Tryd.ntmps24
    go_wp2_with fail
    refine cO.mono ?_
    rintro e w1 ⟨rfl, hb⟩
    have HK := Lib.hid (InOne.start hb y m d h i s wd yd)
    clear hb cO
    go_wp2_with fail
    refine (rtwo_from HK.out H H0 H1).mono ?_
    rintro e w2 ⟨rfl, hk⟩
    have HK2 := Lib.hid hk
    clear hk HK
    go_wp2_with fail
    refine (rtwo_from HK2.out M M0 M1).mono ?_
    rintro e w3 ⟨rfl, hk⟩
    have HK3 := Lib.hid hk
    clear hk HK2
    go_wp2_with fail
    go_ret2
    exact ⟨ret_told HE2.out, HK3.out.below⟩
  · obtain ⟨g1, g2⟩ := hpos ho
    subst g2
    obtain ⟨b1, b2, a1, a2, HE⟩ := three_add Tryd.prog 43 (twoL H.toNat) (twoL M.toNat) (by rw [two_len]; omega) (by rw [two_len]; omega)
    have HE2 := Lib.hid (HE.out.trans (HL.out 43 (fun n => absurd n ho) (fun _ => rfl)))
    clear HL HE hneg hpos
    go_enter Tryd.func24, Tryd.ntmps24
    go_wp2_with fail
    refine cO.mono ?_
    rintro e w1 ⟨rfl, hb⟩
    have HK := Lib.hid (InOne.start hb y m d h i s wd yd)
    clear hb cO
    go_wp2_with fail
    refine (rtwo_from HK.out H H0 H1).mono ?_
    rintro e w2 ⟨rfl, hk⟩
    have HK2 := Lib.hid hk
    clear hk HK
    go_wp2_with fail
    refine (rtwo_from HK2.out M M0 M1).mono ?_
    rintro e w3 ⟨rfl, hk⟩
    have HK3 := Lib.hid hk
    clear hk HK2
    go_wp2_with fail
    go_ret2
    exact ⟨ret_told HE2.out, HK3.out.below⟩
end Go.Proofs.YtiegibgllnojcaaDoor
