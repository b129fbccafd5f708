/-
  What the reference's Next returns: the character that a text begins with, and its bytes. Conditions: the text has from 1 to 1000000 bytes.
-/
import Derived.Test.YtigkdehaepenhaaGreatDoorFQSlash
set_option linter.unusedVariables false
set_option linter.unusedSimpArgs false
namespace Go.Proofs.YtigkdehaepenhaaGreatDoor.Q
open Go.RowKit

def NextEnds (s : ByteArray) (w : World) (e : Ending) (w' : World) : Prop := ∃ r n, NextIs s r n ∧ e = .returned (.tuple #[.int .i64 r, .int .i64 n]) ∧ w = w'
theorem ends_bad {s : ByteArray} {w : World} (h : NextIs s (-1) 1) : NextEnds s w (.returned (.tuple #[.int .i64 (-1), .int .i64 1])) w := ⟨_, _, h, rfl, rfl⟩

theorem get_is (s : ByteArray) (k : Nat) (h : k < s.size) : s.get! k = s[k]'h := by
  simp [ByteArray.get!, getElem!_pos, h]
  rfl

set_option maxRecDepth 100000 in
theorem next_ascii (s : ByteArray) (w : World) (h0 : 0 < s.size) (hc : (s[0]'h0).toNat < 128) :
    Calls Tryz.prog 115 #[.string s] w (NextEnds s w) := by
  go_enter Tryz.func115, Tryz.ntmps115
  go_wp2
  go_ret2
  refine ⟨_, _, ?_, rfl, rfl⟩
  rw [← get_is s 0 h0] at hc ⊢
  exact next_one hc

set_option maxRecDepth 100000 in
theorem next_none (s : ByteArray) (w : World) (h0 : 0 < s.size) (hc : (128 ≤ (s[0]'h0).toNat ∧ (s[0]'h0).toNat < 192) ∨ 248 ≤ (s[0]'h0).toNat) :
    Calls Tryz.prog 115 #[.string s] w (NextEnds s w) := by
  have hc256 := (s[0]'h0).toNat_lt
  have HN : Hid (NextIs s (-1) 1) := Lib.hid (by
    rw [← get_is s 0 h0] at hc hc256
    exact next_bad (by omega) (dN_none _ _ _ _ _ (by omega)))
  rcases hc with ⟨h1, h2⟩ | h1
  · go_enter Tryz.func115, Tryz.ntmps115
    go_wp2
    go_ret2
    exact ends_bad HN.out
  · go_enter Tryz.func115, Tryz.ntmps115
    go_wp2
    go_ret2
    exact ends_bad HN.out

def NRel (s : ByteArray) (N : Nat) (r0 : Int) (r i : Value) : Prop := ∃ k m : Nat, k = m + 1 ∧ k ≤ N ∧ i = .int .i64 (k : Int) ∧ Conts s m ∧ r = .int .i64 (accR s r0 m)
theorem accR_next {s : ByteArray} {r0 R : Int} {k m : Nat} (hk : k = m + 1) (hR : accR s r0 m = R) {b : UInt8} (hg : s.get! k = b) : accR s r0 k = R * 64 + (b.toNat : Int) % 64 := by
  subst hk
  rw [accR, hR, hg]

set_option maxRecDepth 100000 in
set_option maxHeartbeats 1000000 in
theorem next_two (s : ByteArray) (w : World) (hs : s.size ≤ 1000000) (h0 : 0 < s.size) (hc : 192 ≤ (s[0]'h0).toNat) (hd : (s[0]'h0).toNat < 224) :
    Calls Tryz.prog 115 #[.string s] w (NextEnds s w) := by
  have E0 := Lib.hid (get_is s 0 h0)
  have HC1 : Hid (192 ≤ (s.get! 0).toNat) := Lib.hid (by rw [E0.out]; exact hc)
  have HC2 : Hid ((s.get! 0).toNat < 224) := Lib.hid (by rw [E0.out]; exact hd)
  by_cases hl : s.size < 2
  · have HN := Lib.hid (two_bad HC1.out HC2.out (.inl hl))
    go_enter Tryz.func115, Tryz.ntmps115
    go_wp2
    go_ret2
    exact ends_bad HN.out
  · have d1 : decide ((((s[0]'h0).toNat : Nat) : Int) < 128) = false := by simp; omega
    have d2 : decide ((((s[0]'h0).toNat : Nat) : Int) < 224) = true := by simp; omega
    have d5 : decide ((s.size : Int) < 2) = false := by simp; omega
    go_enter Tryz.func115, Tryz.ntmps115
    go_wp2
    go_loop [6, 8] (NRel s 2 (((s[0]'h0).toNat : Int) % 32)) (fun _ i => 2 - (intOf i).toNat)
    case atStart => exact ⟨1, 0, rfl, by omega, rfl, fun j h1 h2 => by omega, rfl⟩
    case round =>
      obtain ⟨k, m, hm, hk, rfl, hcs, rfl⟩ := hrel
      have HM := Lib.hid hm
      have HC := Lib.hid hcs
      have hbd := accR_bd s (((s[0]'h0).toNat : Int) % 32) (by omega) (by omega) m (by omega)
      generalize hR : accR s (((s[0]'h0).toNat : Int) % 32) m = R at *
      have HR := Lib.hid hR
      clear hR
      by_cases hlt : k < 2
      · have hks : k < s.size := by omega
        have hb := (s[k]'hks).toNat_lt
        have EK := Lib.hid (get_is s k hks)
        have hk0 : 0 < k := by omega
        clear hm hcs
        by_cases hcont : 128 ≤ (s[k]'hks).toNat ∧ (s[k]'hks).toNat < 192
        · obtain ⟨hg1, hg2⟩ := hcont
          go_wp2
          go_round
          case rel =>
            refine ⟨k + 1, k, rfl, by omega, by go_num, ?_, congrArg (Value.int .i64) (accR_next HM.out HR.out EK.out).symm⟩
            intro j h1 h2
            have := HM.out
            by_cases hj : j = k
            · rw [hj, EK.out]; omega
            · exact HC.out j h1 (by omega)
          case measure => simp [intOf]; omega
        · have HN := Lib.hid (two_bad HC1.out HC2.out (.inr (.inl ⟨k, hk0, hlt, by rw [EK.out]; omega⟩)))
          rcases (show (s[k]'hks).toNat < 128 ∨ 192 ≤ (s[k]'hks).toNat by omega) with hg | hg
          · clear hcont
            go_wp2
            go_ret2
            exact ends_bad HN.out
          · clear hcont
            go_wp2
            go_ret2
            exact ends_bad HN.out
      · have HK : Hid (m = 1) := Lib.hid (by omega)
        obtain rfl : k = 2 := by omega
        clear hm hcs
        have HV : Hid (R = accR s (((s.get! 0).toNat : Int) % 32) 1) := Lib.hid (by rw [E0.out, ← HK.out]; exact HR.out.symm)
        have HC' : Hid (Conts s 1) := Lib.hid (by rw [← HK.out]; exact HC.out)
        have hbd2 : R ≤ 2047 := by rw [HV.out]; simp only [accR]; omega
        go_wp2
        all_goals go_ret2
        all_goals first
          | (refine ends_bad (two_bad HC1.out HC2.out ?_); rw [← HV.out]; omega)
          | (refine ⟨_, _, two_end HC1.out HC2.out (by omega) HC'.out HV.out ?_, rfl, rfl⟩ <;> omega)
set_option maxRecDepth 100000 in
set_option maxHeartbeats 1000000 in
theorem next_three (s : ByteArray) (w : World) (hs : s.size ≤ 1000000) (h0 : 0 < s.size) (hc : 224 ≤ (s[0]'h0).toNat) (hd : (s[0]'h0).toNat < 240) :
    Calls Tryz.prog 115 #[.string s] w (NextEnds s w) := by
  have E0 := Lib.hid (get_is s 0 h0)
  have HC1 : Hid (224 ≤ (s.get! 0).toNat) := Lib.hid (by rw [E0.out]; exact hc)
  have HC2 : Hid ((s.get! 0).toNat < 240) := Lib.hid (by rw [E0.out]; exact hd)
  by_cases hl : s.size < 3
  · have HN := Lib.hid (three_bad HC1.out HC2.out (.inl hl))
    go_enter Tryz.func115, Tryz.ntmps115
    go_wp2
    go_ret2
    exact ends_bad HN.out
  · have d1 : decide ((((s[0]'h0).toNat : Nat) : Int) < 128) = false := by simp; omega
    have d2 : decide ((((s[0]'h0).toNat : Nat) : Int) < 224) = false := by simp; omega
    have d3 : decide ((((s[0]'h0).toNat : Nat) : Int) < 240) = true := by simp; omega
    have d5 : decide ((s.size : Int) < 3) = false := by simp; omega
    go_enter Tryz.func115, Tryz.ntmps115
    go_wp2
    go_loop [6, 8] (NRel s 3 (((s[0]'h0).toNat : Int) % 16)) (fun _ i => 3 - (intOf i).toNat)
    case atStart => exact ⟨1, 0, rfl, by omega, rfl, fun j h1 h2 => by omega, rfl⟩
    case round =>
      obtain ⟨k, m, hm, hk, rfl, hcs, rfl⟩ := hrel
      have HM := Lib.hid hm
      have HC := Lib.hid hcs
      have hbd := accR_bd s (((s[0]'h0).toNat : Int) % 16) (by omega) (by omega) m (by omega)
      generalize hR : accR s (((s[0]'h0).toNat : Int) % 16) m = R at *
      have HR := Lib.hid hR
      clear hR
      by_cases hlt : k < 3
      · have hks : k < s.size := by omega
        have hb := (s[k]'hks).toNat_lt
        have EK := Lib.hid (get_is s k hks)
        have hk0 : 0 < k := by omega
        clear hm hcs
        by_cases hcont : 128 ≤ (s[k]'hks).toNat ∧ (s[k]'hks).toNat < 192
        · obtain ⟨hg1, hg2⟩ := hcont
          go_wp2
          go_round
          case rel =>
            refine ⟨k + 1, k, rfl, by omega, by go_num, ?_, congrArg (Value.int .i64) (accR_next HM.out HR.out EK.out).symm⟩
            intro j h1 h2
            have := HM.out
            by_cases hj : j = k
            · rw [hj, EK.out]; omega
            · exact HC.out j h1 (by omega)
          case measure => simp [intOf]; omega
        · have HN := Lib.hid (three_bad HC1.out HC2.out (.inr (.inl ⟨k, hk0, hlt, by rw [EK.out]; omega⟩)))
          rcases (show (s[k]'hks).toNat < 128 ∨ 192 ≤ (s[k]'hks).toNat by omega) with hg | hg
          · clear hcont
            go_wp2
            go_ret2
            exact ends_bad HN.out
          · clear hcont
            go_wp2
            go_ret2
            exact ends_bad HN.out
      · have HK : Hid (m = 2) := Lib.hid (by omega)
        obtain rfl : k = 3 := by omega
        clear hm hcs
        have HV : Hid (R = accR s (((s.get! 0).toNat : Int) % 16) 2) := Lib.hid (by rw [E0.out, ← HK.out]; exact HR.out.symm)
        have HC' : Hid (Conts s 2) := Lib.hid (by rw [← HK.out]; exact HC.out)
        have hbd2 : R ≤ 65535 := by rw [HV.out]; simp only [accR]; omega
        go_wp2
        all_goals go_ret2
        all_goals first
          | (refine ends_bad (three_bad HC1.out HC2.out ?_); rw [← HV.out]; omega)
          | (refine ⟨_, _, three_end HC1.out HC2.out (by omega) HC'.out HV.out ?_ ?_, rfl, rfl⟩ <;> omega)
set_option maxRecDepth 100000 in
set_option maxHeartbeats 1000000 in
theorem next_four (s : ByteArray) (w : World) (hs : s.size ≤ 1000000) (h0 : 0 < s.size) (hc : 240 ≤ (s[0]'h0).toNat) (hd : (s[0]'h0).toNat < 248) :
    Calls Tryz.prog 115 #[.string s] w (NextEnds s w) := by
  have E0 := Lib.hid (get_is s 0 h0)
  have HC1 : Hid (240 ≤ (s.get! 0).toNat) := Lib.hid (by rw [E0.out]; exact hc)
  have HC2 : Hid ((s.get! 0).toNat < 248) := Lib.hid (by rw [E0.out]; exact hd)
  by_cases hl : s.size < 4
  · have HN := Lib.hid (four_bad HC1.out HC2.out (.inl hl))
    go_enter Tryz.func115, Tryz.ntmps115
    go_wp2
    go_ret2
    exact ends_bad HN.out
  · have d1 : decide ((((s[0]'h0).toNat : Nat) : Int) < 128) = false := by simp; omega
    have d2 : decide ((((s[0]'h0).toNat : Nat) : Int) < 224) = false := by simp; omega
    have d3 : decide ((((s[0]'h0).toNat : Nat) : Int) < 240) = false := by simp; omega
    have d4 : decide ((((s[0]'h0).toNat : Nat) : Int) < 248) = true := by simp; omega
    have d5 : decide ((s.size : Int) < 4) = false := by simp; omega
    go_enter Tryz.func115, Tryz.ntmps115
    go_wp2
    go_loop [6, 8] (NRel s 4 (((s[0]'h0).toNat : Int) % 8)) (fun _ i => 4 - (intOf i).toNat)
    case atStart => exact ⟨1, 0, rfl, by omega, rfl, fun j h1 h2 => by omega, rfl⟩
    case round =>
      obtain ⟨k, m, hm, hk, rfl, hcs, rfl⟩ := hrel
      have HM := Lib.hid hm
      have HC := Lib.hid hcs
      have hbd := accR_bd s (((s[0]'h0).toNat : Int) % 8) (by omega) (by omega) m (by omega)
      generalize hR : accR s (((s[0]'h0).toNat : Int) % 8) m = R at *
      have HR := Lib.hid hR
      clear hR
      by_cases hlt : k < 4
      · have hks : k < s.size := by omega
        have hb := (s[k]'hks).toNat_lt
        have EK := Lib.hid (get_is s k hks)
        have hk0 : 0 < k := by omega
        clear hm hcs
        by_cases hcont : 128 ≤ (s[k]'hks).toNat ∧ (s[k]'hks).toNat < 192
        · obtain ⟨hg1, hg2⟩ := hcont
          go_wp2
          go_round
          case rel =>
            refine ⟨k + 1, k, rfl, by omega, by go_num, ?_, congrArg (Value.int .i64) (accR_next HM.out HR.out EK.out).symm⟩
            intro j h1 h2
            have := HM.out
            by_cases hj : j = k
            · rw [hj, EK.out]; omega
            · exact HC.out j h1 (by omega)
          case measure => simp [intOf]; omega
        · have HN := Lib.hid (four_bad HC1.out HC2.out (.inr (.inl ⟨k, hk0, hlt, by rw [EK.out]; omega⟩)))
          rcases (show (s[k]'hks).toNat < 128 ∨ 192 ≤ (s[k]'hks).toNat by omega) with hg | hg
          · clear hcont
            go_wp2
            go_ret2
            exact ends_bad HN.out
          · clear hcont
            go_wp2
            go_ret2
            exact ends_bad HN.out
      · have HK : Hid (m = 3) := Lib.hid (by omega)
        obtain rfl : k = 4 := by omega
        clear hm hcs
        have HV : Hid (R = accR s (((s.get! 0).toNat : Int) % 8) 3) := Lib.hid (by rw [E0.out, ← HK.out]; exact HR.out.symm)
        have HC' : Hid (Conts s 3) := Lib.hid (by rw [← HK.out]; exact HC.out)
        have hbd2 : R ≤ 2097151 := by rw [HV.out]; simp only [accR]; omega
        go_wp2
        all_goals go_ret2
        all_goals first
          | (refine ends_bad (four_bad HC1.out HC2.out ?_); rw [← HV.out]; omega)
          | (refine ⟨_, _, four_end HC1.out HC2.out (by omega) HC'.out HV.out ?_ ?_, rfl, rfl⟩ <;> omega)

theorem next_any (s : ByteArray) (w : World) (hs : s.size ≤ 1000000) (h0 : 0 < s.size) :
    Calls Tryz.prog 115 #[.string s] w fun e w' => e = .returned (.tuple #[.int .i64 (nextR s), .int .i64 ((Utf8.decode s 0).2 : Nat)]) ∧ w = w' := by
  have key : Calls Tryz.prog 115 #[.string s] w (NextEnds s w) := by
    by_cases h1 : (s[0]'h0).toNat < 128
    · exact next_ascii s w h0 h1
    · by_cases h2 : (s[0]'h0).toNat < 192
      · exact next_none s w h0 (.inl ⟨by omega, h2⟩)
      · by_cases h3 : (s[0]'h0).toNat < 224
        · exact next_two s w hs h0 (by omega) h3
        · by_cases h4 : (s[0]'h0).toNat < 240
          · exact next_three s w hs h0 (by omega) h4
          · by_cases h5 : (s[0]'h0).toNat < 248
            · exact next_four s w hs h0 (by omega) h5
            · exact next_none s w h0 (.inr (by omega))
  refine key.mono ?_
  rintro e w' ⟨r, n, ⟨rfl, rfl⟩, he, hw⟩
  exact ⟨he, hw⟩
end Go.Proofs.YtigkdehaepenhaaGreatDoor.Q
