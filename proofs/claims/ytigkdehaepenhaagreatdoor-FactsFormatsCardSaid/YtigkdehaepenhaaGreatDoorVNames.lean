/-
  What the reference's Good returns; that the law VfsNames returns true. Conditions: none.
-/
import Derived.Test.YtigkdehaepenhaaGreatDoorVDevM
namespace Go.Proofs.YtigkdehaepenhaaGreatDoor.V
open Go.RowKit

def RefRel (s : ByteArray) (w : World) (v : Value) (wr : World) : Prop := ∃ k : Nat, k ≤ s.size ∧ v = .int .i64 (k : Int) ∧ wr = w ∧ Lib.NoAny s.data.toList hardL k
theorem goodB_hit {s : ByteArray} (h : 0 ≤ Lib.indexAny s.data.toList hardL) : goodB s = false := by
  unfold goodB
  rw [decide_eq_true h]
  simp
theorem goodB_none {s : ByteArray} (h : Lib.indexAny s.data.toList hardL = -1) : goodB s = (decide (0 < s.size) && (decide (s.size < 256) && (!(s.toList == [46]) && !(s.toList == [46, 46])))) := by
  unfold goodB
  rw [h]
  have e1 : decide (1 ≤ s.size) = decide (0 < s.size) := by congr 1
  have e2 : decide (s.size ≤ 255) = decide (s.size < 256) := by congr 1; exact propext ⟨fun _ => by omega, fun _ => by omega⟩
  rw [e1, e2]
  simp

set_option maxRecDepth 100000 in
set_option maxHeartbeats 4000000 in
theorem refGood_any (s : ByteArray) (w : World) (hs : s.size ≤ 1000000) :
    Calls Tryz.prog 77 #[.string s] w fun e w' => e = .returned (.bool (goodB s)) ∧ w = w' := by
  go_enter Tryz.func77, Tryz.ntmps77
  go_wp2
  go_loopw [3] (RefRel s w) (fun v _ => s.size - (intOf v).toNat)
  case atStart => exact ⟨0, Nat.zero_le _, rfl, rfl, Lib.NoAny.zero _ _⟩
  case round =>
    obtain ⟨k, hk, rfl, rfl, hn⟩ := hrel
    have HN := Lib.hid hn
    clear hn
    by_cases hlt : k < s.size
    · have hat : s.data.toList[k]? = some (s[k]'hlt) := Lib.data_getElem? s k hlt
      have HAT := Lib.hid hat
      clear hat
      by_cases h0 : (s[k]'hlt) = 0
      · have d0 : (((s[k]'hlt).toNat : Int) == 0) = true := by rw [h0]; rfl
        have HR := Lib.hid (goodB_hit (s := s) (by rw [Lib.indexAny_hit HN.out HAT.out (hard_of.2 (.inl h0))]; omega))
        clear h0
        go_wp2
        go_ret
        exact ⟨ret_bool HR.out.symm, rfl⟩
      · have hne0 : ¬ ((s[k]'hlt).toNat : Int) = 0 := fun e => h0 (UInt8.toNat_inj.1 (by simpa using e))
        have d0 : (((s[k]'hlt).toNat : Int) == 0) = false := by simpa using hne0
        by_cases h1 : (s[k]'hlt) = 47
        · have d1 : (((s[k]'hlt).toNat : Int) == 47) = true := by rw [h1]; rfl
          have HR := Lib.hid (goodB_hit (s := s) (by rw [Lib.indexAny_hit HN.out HAT.out (hard_of.2 (.inr h1))]; omega))
          clear h0 h1 hne0
          go_wp2
          go_ret
          exact ⟨ret_bool HR.out.symm, rfl⟩
        · have e47 : (47 : UInt8).toNat = 47 := rfl
          have hne1 : ¬ ((s[k]'hlt).toNat : Int) = 47 := by
            intro e
            apply h1
            apply UInt8.toNat_inj.1
            rw [e47]
            omega

          have d1 : (((s[k]'hlt).toNat : Int) == 47) = false := by simpa using hne1
          have hc : hardL.contains (s[k]'hlt) = false := by
            rw [← Bool.not_eq_true, hard_of]
            exact fun e => e.elim h0 h1
          have R := Lib.hid (HN.out.succ HAT.out hc)
          clear h0 h1 hne0 hne1 hc
          go_wp2
          go_roundw
          case rel => exact ⟨k + 1, by omega, by simp, rfl, R.out⟩
          case measure => simp [intOf]; omega
    · have hno := Lib.hid (show Lib.indexAny s.data.toList hardL = -1 from Lib.indexAny_none (by rw [← Lib.size_eq, show s.size = k by omega]; exact HN.out))
      have HG := Lib.hid (goodB_none hno.out)
      by_cases z0 : 0 < s.size
      · by_cases z1 : s.size < 256
        · cases e1 : s.toList == [46] with
          | true =>
            have n1 : (s.toList != [46]) = false := by simp [bne, e1]
            have HE := Lib.hid e1
            clear e1
            go_wp2
            all_goals go_ret
            all_goals exact ⟨ret_bool (by rw [HG.out, HE.out]; simp), rfl⟩
          | false =>
            have n1 : ¬ s.toList = [46] := by simpa using e1
            have HE := Lib.hid e1
            clear e1
            cases e2 : s.toList == [46, 46] with
            | true =>
              have n2 : (s.toList != [46, 46]) = false := by simp [bne, e2]
              have HE2 := Lib.hid e2
              clear e2
              go_wp2
              all_goals go_ret
              all_goals exact ⟨ret_bool (by rw [HG.out, HE.out, HE2.out]; simp), rfl⟩
            | false =>
              have n2 : ¬ s.toList = [46, 46] := by simpa using e2
              have HE2 := Lib.hid e2
              clear e2
              go_wp2
              all_goals go_ret
              all_goals exact ⟨ret_bool (by rw [HG.out, HE.out, HE2.out, decide_eq_true z0, decide_eq_true z1]; rfl), rfl⟩
        · go_wp2
          all_goals go_ret
          all_goals exact ⟨ret_bool (by rw [HG.out, decide_eq_false z1]; simp), rfl⟩
      · go_wp2
        all_goals go_ret
        all_goals exact ⟨ret_bool (by rw [HG.out, decide_eq_false z0]; simp), rfl⟩
end Go.Proofs.YtigkdehaepenhaaGreatDoor.V
