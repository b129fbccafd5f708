/-
  What perm's searched returns: may anybody search. Conditions: the table of classes lies as its text lays it.
-/
import Derived.Test.YtgnlbmpejkdoiaaDoorPBits
set_option linter.unusedVariables false
namespace Go.Proofs.YtgnlbmpejkdoiaaDoor
open Go.RowKit

/-- Before round k: nobody of the first k classes searches; the table and the box are as they were. -/
def SRel (W : World) (b : Nat) (m : Int) (v : Value) (w : World) : Prop :=
  ∃ k : Nat, k ≤ 3 ∧ v = .int .i64 (k : Int) ∧ Hid ((0 < k → bitB m 6 = false) ∧ (1 < k → bitB m 3 = false) ∧ (2 < k → bitB m 0 = false)) ∧ Below W.heap.size W w ∧ w.cell? ⟨b, 3, none⟩ = some (.int .i64 m)

set_option maxHeartbeats 1000000 in
theorem searched_any (n : Nv) (w : World) (ht : Tab w) :
    Calls Tryd.prog 24 #[nodeV n] w fun e w' => e = .returned (.bool (anyB n.mode)) ∧ Below w.heap.size w w' := by
  have HT := Lib.hid ht
  clear ht
  unfold nodeV
  go_enter Tryd.func24, Tryd.ntmps24
  go_wp2_with (refine wpList_load_mid rfl 47 (.global 0) rfl 0 0 rfl classCells _ (HT.out.keep ((Below.refl _ _).alloc (Nat.le_refl _) _)).cell Tryd.underlying47 rfl sizeClasses ?_)
  go_loopw [6] (SRel w w.heap.size n.mode) (fun v _ => (3 - intOf v).toNat)
  case atStart => exact ⟨0, by decide, rfl, Lib.hid ⟨by omega, by omega, by omega⟩, (Below.refl _ _).alloc (Nat.le_refl _) _, by rw [World.cell?_alloc_at _ _ _ _ rfl]; rfl⟩
  case round =>
    obtain ⟨k, hk, rfl, hz, hb, hc⟩ := hrel
    have hlt := cell_lt hc
    have hlt' : w.heap.size < wr.heap.size := hlt
    clear hlt
    have HB := Lib.hid hb
    clear hb
    have hk' : k = 0 ∨ k = 1 ∨ k = 2 ∨ k = 3 := by omega
    clear hk
    rcases hk' with rfl | rfl | rfl | rfl
    · have hi := class0
      by_cases hq : bitB n.mode 6 = true
      · have HA := Lib.hid (show anyB n.mode = true by unfold anyB; rw [hq]; simp)
        have HQ := Lib.hid hq
        clear hq
        go_wp2_with (go_at_call 16; refine (setAt 6 _ rfl (by decide) _ _).mono ?_; rintro e w' ⟨rfl, rfl⟩; rw [HQ.out])
        go_ret
        refine ⟨ret_bool HA.out.symm, ?_⟩
        refine below_two HB.out ?_
        repeat (first | (with_reducible apply Below.setCell (hp := ?_)) | (with_reducible apply Below.alloc (hB := ?_)) | (with_reducible exact Below.refl _ _) | (simp; done))
      · have hq' : bitB n.mode 6 = false := by simpa using hq
        have HQ := Lib.hid hq'
        have HZ : Hid ((0 < 1 → bitB n.mode 6 = false) ∧ (1 < 1 → bitB n.mode 3 = false) ∧ (2 < 1 → bitB n.mode 0 = false)) := Lib.hid (by have := hz.out; simp_all)
        clear hq hq' hz
        go_wp2_with (go_at_call 16; refine (setAt 6 _ rfl (by decide) _ _).mono ?_; rintro e w' ⟨rfl, rfl⟩; rw [HQ.out])
        go_roundw
        case rel =>
          refine ⟨1, by decide, rfl, HZ, ?_, ?_⟩
          · refine below_two HB.out ?_
            repeat (first | (with_reducible apply Below.setCell (hp := ?_)) | (with_reducible apply Below.alloc (hB := ?_)) | (with_reducible exact Below.refl _ _) | (simp; done))
          · go_simp
        case measure => decide
    · have hi := class1
      by_cases hq : bitB n.mode 3 = true
      · have HA := Lib.hid (show anyB n.mode = true by unfold anyB; rw [hq]; simp)
        have HQ := Lib.hid hq
        clear hq
        go_wp2_with (go_at_call 16; refine (setAt 3 _ rfl (by decide) _ _).mono ?_; rintro e w' ⟨rfl, rfl⟩; rw [HQ.out])
        go_ret
        refine ⟨ret_bool HA.out.symm, ?_⟩
        refine below_two HB.out ?_
        repeat (first | (with_reducible apply Below.setCell (hp := ?_)) | (with_reducible apply Below.alloc (hB := ?_)) | (with_reducible exact Below.refl _ _) | (simp; done))
      · have hq' : bitB n.mode 3 = false := by simpa using hq
        have HQ := Lib.hid hq'
        have HZ : Hid ((0 < 2 → bitB n.mode 6 = false) ∧ (1 < 2 → bitB n.mode 3 = false) ∧ (2 < 2 → bitB n.mode 0 = false)) := Lib.hid (by have := hz.out; simp_all)
        clear hq hq' hz
        go_wp2_with (go_at_call 16; refine (setAt 3 _ rfl (by decide) _ _).mono ?_; rintro e w' ⟨rfl, rfl⟩; rw [HQ.out])
        go_roundw
        case rel =>
          refine ⟨2, by decide, rfl, HZ, ?_, ?_⟩
          · refine below_two HB.out ?_
            repeat (first | (with_reducible apply Below.setCell (hp := ?_)) | (with_reducible apply Below.alloc (hB := ?_)) | (with_reducible exact Below.refl _ _) | (simp; done))
          · go_simp
        case measure => decide
    · have hi := class2
      by_cases hq : bitB n.mode 0 = true
      · have HA := Lib.hid (show anyB n.mode = true by unfold anyB; rw [hq]; simp)
        have HQ := Lib.hid hq
        clear hq
        go_wp2_with (go_at_call 16; refine (setAt 0 _ rfl (by decide) _ _).mono ?_; rintro e w' ⟨rfl, rfl⟩; rw [HQ.out])
        go_ret
        refine ⟨ret_bool HA.out.symm, ?_⟩
        refine below_two HB.out ?_
        repeat (first | (with_reducible apply Below.setCell (hp := ?_)) | (with_reducible apply Below.alloc (hB := ?_)) | (with_reducible exact Below.refl _ _) | (simp; done))
      · have hq' : bitB n.mode 0 = false := by simpa using hq
        have HQ := Lib.hid hq'
        have HZ : Hid ((0 < 3 → bitB n.mode 6 = false) ∧ (1 < 3 → bitB n.mode 3 = false) ∧ (2 < 3 → bitB n.mode 0 = false)) := Lib.hid (by have := hz.out; simp_all)
        clear hq hq' hz
        go_wp2_with (go_at_call 16; refine (setAt 0 _ rfl (by decide) _ _).mono ?_; rintro e w' ⟨rfl, rfl⟩; rw [HQ.out])
        go_roundw
        case rel =>
          refine ⟨3, by decide, rfl, HZ, ?_, ?_⟩
          · refine below_two HB.out ?_
            repeat (first | (with_reducible apply Below.setCell (hp := ?_)) | (with_reducible apply Below.alloc (hB := ?_)) | (with_reducible exact Below.refl _ _) | (simp; done))
          · go_simp
        case measure => decide
    · have HA := Lib.hid (show anyB n.mode = false by obtain ⟨a, b, c⟩ := hz.out; unfold anyB; rw [a (by decide), b (by decide), c (by decide)]; rfl)
      clear hz
      go_wp2
      go_ret
      exact ⟨ret_bool HA.out.symm, HB.out⟩
end Go.Proofs.YtgnlbmpejkdoiaaDoor
