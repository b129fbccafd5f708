/-
  What the reference's one returns. Conditions: the text has at most 1000000 bytes; the place lies in it or at its end.
-/
import Derived.Test.YtlilnljneakngaaDoorQRefM
set_option linter.unusedVariables false
namespace Go.Proofs.YtlilnljneakngaaDoor
open Go.RowKit

def octQ (m : Bytes) : Nat → Nat
  | 0 => 0
  | k + 1 => octQ m k * 8 + (nth m k - 48)
theorem octQ_bd (m : Bytes) (k : Nat) (hk : k ≤ 3) (hd : ∀ j, j < k → 48 ≤ nth m j ∧ nth m j ≤ 55) : octQ m k ≤ 511 ∧ (k ≤ 2 → octQ m k ≤ 63) := by
  match k, hk with
  | 0, _ => simp [octQ]
  | 1, _ => have := hd 0 (by omega); simp only [octQ]; omega
  | 2, _ => have := hd 0 (by omega); have := hd 1 (by omega); simp only [octQ]; omega
  | 3, _ => have := hd 0 (by omega); have := hd 1 (by omega); have := hd 2 (by omega); simp only [octQ]; omega
def OneRel (m : Bytes) (n i : Value) : Prop := ∃ k : Nat, k ≤ 3 ∧ i = .int .i64 (k : Int) ∧ (∀ j, j < k → 48 ≤ nth m j ∧ nth m j ≤ 55) ∧ n = .int .i64 (octQ m k : Int)

set_option maxHeartbeats 2000000 in
set_option maxRecDepth 100000 in
theorem one_any (s : ByteArray) (p : Nat) (w : World) (hs : s.size ≤ 1000000) (hp : p ≤ s.size) :
    Calls Tryd.prog 27 #[.string s, .int .i64 (p : Int)] w fun e w' => e = .returned (.tuple #[.int .u8 ((onP ((L s).drop p)).1.toNat : Int), .int .i64 ((onP ((L s).drop p)).2 : Int)]) ∧ w' = w := by
  obtain ⟨m, hm⟩ : ∃ m, (L s).drop p = m := ⟨_, rfl⟩
  have hnth : ∀ k (h : p + k < s.size), (s[p + k]'h).toNat = nth m k := fun k h => by rw [get_nth', ← hm, nth_drop]
  have hout : ∀ k, s.size ≤ p + k → nth m k = 0 := fun k h => by rw [← hm, nth_drop]; exact nth_beyond (by rw [L_len]; exact h)
  rw [hm]
  have HM := Lib.hid hnth
  have HZ := Lib.hid hout
  clear hnth hout hm
  obtain ⟨n0, hn0⟩ : ∃ n0, nth m 0 = n0 := ⟨_, rfl⟩
  by_cases h110 : n0 = 110
  · have hlt : p < s.size := by
      apply Classical.byContradiction
      intro h
      have := HZ.out 0 (by omega)
      omega
    have e0 : (s[p]'hlt).toNat = 110 := by rw [← h110, ← hn0]; exact HM.out 0 hlt
    have HE : Hid (onP m = (10, 1)) := Lib.hid (by unfold onP; rw [if_pos (by omega)])
    clear hn0 h110
    go_enter Tryd.func27, Tryd.ntmps27
    go_wp2_with fail
    go_ret2
    rw [HE.out]
    exact ⟨rfl, rfl⟩
  · by_cases h116 : n0 = 116
    · have hlt : p < s.size := by
        apply Classical.byContradiction
        intro h
        have := HZ.out 0 (by omega)
        omega
      have e0 : (s[p]'hlt).toNat = 116 := by rw [← h116, ← hn0]; exact HM.out 0 hlt
      have HE : Hid (onP m = (9, 1)) := Lib.hid (by unfold onP; rw [if_neg (by omega), if_pos (by omega)])
      clear hn0 h116 h110
      go_enter Tryd.func27, Tryd.ntmps27
      go_wp2_with fail
      go_ret2
      rw [HE.out]
      exact ⟨rfl, rfl⟩
    · have HA := Lib.hid (show nth m 0 ≠ 110 by omega)
      have HB := Lib.hid (show nth m 0 ≠ 116 by omega)
      have x1 : ((n0 : Int) == 110) = false := beq_eq_false_iff_ne.2 (by omega)
      have x2 : ((n0 : Int) == 116) = false := beq_eq_false_iff_ne.2 (by omega)
      have HE0 : Hid (∀ k, k < 3 → ¬ (48 ≤ nth m k ∧ nth m k ≤ 55) → onP m = (0, 0)) := Lib.hid (fun k hk hn => by
        unfold onP
        rw [if_neg HA.out, if_neg HB.out, if_neg]
        rintro ⟨a0, a1, a2, a3, a4, a5, a6⟩
        have : k = 0 ∨ k = 1 ∨ k = 2 := by omega
        rcases this with rfl | rfl | rfl <;> omega)
      have e0 : ∀ h : p < s.size, (s[p]'h).toNat = n0 := fun h => by rw [← hn0]; exact HM.out 0 h
      have E0 := Lib.hid e0
      clear e0 hn0 h110 h116
      have main : ∀ (hq : p < s.size ∨ ¬ p < s.size), Calls Tryd.prog 27 #[.string s, .int .i64 (p : Int)] w fun e w' => e = .returned (.tuple #[.int .u8 ((onP m).1.toNat : Int), .int .i64 ((onP m).2 : Int)]) ∧ w' = w := by
        rintro (hlt | hlt)
        · have e0 := E0.out hlt
          go_enter Tryd.func27, Tryd.ntmps27
          go_wp2_with fail
          go_loop [6, 7] (OneRel m) (fun _ i => 3 - (intOf i).toNat)
          case atStart => exact ⟨0, by omega, rfl, fun j h => by omega, rfl⟩
          case round =>
            obtain ⟨k, hk3, rfl, hd, rfl⟩ := hrel
            have HD := Lib.hid hd
            clear hd e0
            have hbd := octQ_bd m k hk3 HD.out
            obtain ⟨v, hv⟩ : ∃ v, octQ m k = v := ⟨_, rfl⟩
            rw [hv] at hbd ⊢
            by_cases hk : k < 3
            · have hv63 : v ≤ 63 := hbd.2 (by omega)
              clear hbd
              by_cases hin : p + k < s.size
              · have ek := HM.out k hin
                obtain ⟨d, hdd⟩ : ∃ d, nth m k = d := ⟨_, rfl⟩
                rw [hdd] at ek
                by_cases hdig : 48 ≤ d ∧ d ≤ 55
                · have HDk : Hid (∀ j, j < k + 1 → 48 ≤ nth m j ∧ nth m j ≤ 55) := Lib.hid (fun j h2 => by
                    by_cases hj : j = k
                    · rw [hj, hdd]; exact hdig
                    · exact HD.out j (by omega))
                  have HVk : Hid (octQ m (k + 1) = v * 8 + (d - 48)) := Lib.hid (by rw [octQ, hv, hdd])
                  go_wp2_with fail
                  refine ⟨⟨k + 1, by omega, by go_num, HDk.out, ?_⟩, ?_⟩
                  · rw [HVk.out]
                    have : ((v * 8 + (d - 48) : Nat) : Int) = (v : Int) * 8 + ((d : Int) - 48) := by omega
                    rw [this]
                  · simp [intOf]
                    omega
                · have HE := Lib.hid (HE0.out k hk (by rw [hdd]; exact hdig))
                  by_cases hlo : d < 48
                  · go_wp2_with fail
                    go_ret2
                    rw [HE.out]
                    exact ⟨rfl, rfl⟩
                  · have hhi : 55 < d := by omega
                    clear hdig
                    go_wp2_with fail
                    go_ret2
                    rw [HE.out]
                    exact ⟨rfl, rfl⟩
              · have HE := Lib.hid (HE0.out k hk (by rw [HZ.out k (by omega)]; omega))
                go_wp2_with fail
                go_ret2
                rw [HE.out]
                exact ⟨rfl, rfl⟩
            · obtain rfl : k = 3 := by omega
              have d0 := HD.out 0 (by omega)
              have d1 := HD.out 1 (by omega)
              have d2 := HD.out 2 (by omega)
              have ev : v = (nth m 0 - 48) * 64 + (nth m 1 - 48) * 8 + (nth m 2 - 48) := by
                rw [← hv]; simp only [octQ]; omega
              by_cases hbig : 255 < v
              · have HE : Hid (onP m = (0, 0)) := Lib.hid (by
                  unfold onP
                  rw [if_neg HA.out, if_neg HB.out, if_neg (by omega)])
                clear d0 d1 d2 ev hv
                go_wp2_with fail
                go_ret2
                rw [HE.out]
                exact ⟨rfl, rfl⟩
              · have HE : Hid (onP m = (v.toUInt8, 3)) := Lib.hid (by
                  unfold onP
                  rw [if_neg HA.out, if_neg HB.out, if_pos (by omega), ← ev])
                have hv256 : v < 256 := by omega
                clear d0 d1 d2 ev hv
                go_wp2_with fail
                go_ret2
                rw [HE.out]
                exact ⟨ret_pair (by simp [Nat.mod_eq_of_lt hv256]) rfl, rfl⟩
        · have HE := Lib.hid (HE0.out 0 (by omega) (by rw [HZ.out 0 (by omega)]; omega))
          go_enter Tryd.func27, Tryd.ntmps27
          go_wp2_with fail
          go_loop [6, 7] (fun n i => n = .int .i64 0 ∧ i = .int .i64 0) (fun _ i => 3 - (intOf i).toNat)
          case atStart => exact ⟨rfl, rfl⟩
          case round =>
            obtain ⟨rfl, rfl⟩ := hrel
            go_wp2_with fail
            go_ret2
            rw [HE.out]
            exact ⟨rfl, rfl⟩
      exact main (by omega)
end Go.Proofs.YtlilnljneakngaaDoor
