/-
  What perm's Mark, and the reference's Kind and Mark return. Conditions: the table of classes lies as its text lays it; the reference's: modes from 0 to 4095.
-/
import Derived.Test.YtgnlbmpejkdoiaaDoorPBoxes
set_option linter.unusedVariables false
namespace Go.Proofs.YtgnlbmpejkdoiaaDoor
open Go.RowKit

def markL (k m : Int) : List UInt8 := if k = 2 then [47] else if k = 3 then [64] else if k = 1 ∧ anyB m = true then [42] else []

set_option maxHeartbeats 1000000 in
theorem mark_any (n : Nv) (w : World) (ht : Tab w) :
    Calls Tryd.prog 13 #[nodeV n] w fun e w' => e = .returned (.string (txt (markL n.kind n.mode))) ∧ Below w.heap.size w w' := by
  have HT := Lib.hid ht
  clear ht
  have HS := Lib.hid (searched_any n)
  unfold nodeV at HS
  unfold nodeV
  by_cases h2 : n.kind = 2
  · have HR := Lib.hid (show markL n.kind n.mode = [47] by unfold markL; rw [if_pos h2])
    have t2 : (n.kind == 2) = true := beq_iff_eq.2 h2
    clear h2
    go_enter Tryd.func13, Tryd.ntmps13
    go_wp2
    go_ret
    exact ⟨by rw [HR.out]; rfl, by (repeat (first | (with_reducible apply Below.setCell (hp := ?_)) | (with_reducible apply Below.alloc (hB := ?_)) | (with_reducible exact Below.refl _ _) | (simp; done) | omega))⟩
  · have t2 : (n.kind == 2) = false := beq_eq_false_iff_ne.2 h2
    by_cases h3 : n.kind = 3
    · have HR := Lib.hid (show markL n.kind n.mode = [64] by unfold markL; rw [if_neg h2, if_pos h3])
      have t3 : (n.kind == 3) = true := beq_iff_eq.2 h3
      clear h2 h3
      go_enter Tryd.func13, Tryd.ntmps13
      go_wp2
      go_ret
      exact ⟨by rw [HR.out]; rfl, by (repeat (first | (with_reducible apply Below.setCell (hp := ?_)) | (with_reducible apply Below.alloc (hB := ?_)) | (with_reducible exact Below.refl _ _) | (simp; done) | omega))⟩
    · have t3 : (n.kind == 3) = false := beq_eq_false_iff_ne.2 h3
      by_cases h1 : n.kind = 1
      · have t1 : (n.kind == 1) = true := beq_iff_eq.2 h1
        cases ha : anyB n.mode
        · have HR := Lib.hid (show markL n.kind n.mode = [] by unfold markL; rw [if_neg h2, if_neg h3, if_neg (by rw [ha]; simp)])
          rw [ha] at HS
          clear h2 h3 h1 ha
          go_enter Tryd.func13, Tryd.ntmps13
          go_wp2_with fail
          refine (HS.out _ (HT.out.keep (by (repeat (first | (with_reducible apply Below.setCell (hp := ?_)) | (with_reducible apply Below.alloc (hB := ?_)) | (with_reducible exact Below.refl _ _) | (simp; done) | omega))))).mono ?_
          rintro e w1 ⟨rfl, hb1⟩
          have HB := Lib.hid (show Below w.heap.size w w1 from (show Below w.heap.size w _ from by (repeat (first | (with_reducible apply Below.setCell (hp := ?_)) | (with_reducible apply Below.alloc (hB := ?_)) | (with_reducible exact Below.refl _ _) | (simp; done) | omega))).trans (hb1.mono (by simp)))
          clear hb1
          go_wp2_with fail
          go_ret
          exact ⟨by rw [HR.out]; rfl, HB.out⟩
        · have HR := Lib.hid (show markL n.kind n.mode = [42] by unfold markL; rw [if_neg h2, if_neg h3, if_pos ⟨h1, ha⟩])
          rw [ha] at HS
          clear h2 h3 h1 ha
          go_enter Tryd.func13, Tryd.ntmps13
          go_wp2_with fail
          refine (HS.out _ (HT.out.keep (by (repeat (first | (with_reducible apply Below.setCell (hp := ?_)) | (with_reducible apply Below.alloc (hB := ?_)) | (with_reducible exact Below.refl _ _) | (simp; done) | omega))))).mono ?_
          rintro e w1 ⟨rfl, hb1⟩
          have HB := Lib.hid (show Below w.heap.size w w1 from (show Below w.heap.size w _ from by (repeat (first | (with_reducible apply Below.setCell (hp := ?_)) | (with_reducible apply Below.alloc (hB := ?_)) | (with_reducible exact Below.refl _ _) | (simp; done) | omega))).trans (hb1.mono (by simp)))
          clear hb1
          go_wp2_with fail
          go_ret
          exact ⟨by rw [HR.out]; rfl, HB.out⟩
      · have HR := Lib.hid (show markL n.kind n.mode = [] by unfold markL; rw [if_neg h2, if_neg h3, if_neg (by simp [h1])])
        have t1 : (n.kind == 1) = false := beq_eq_false_iff_ne.2 h1
        clear h2 h3 h1
        go_enter Tryd.func13, Tryd.ntmps13
        go_wp2
        go_ret
        exact ⟨by rw [HR.out]; rfl, by (repeat (first | (with_reducible apply Below.setCell (hp := ?_)) | (with_reducible apply Below.alloc (hB := ?_)) | (with_reducible exact Below.refl _ _) | (simp; done) | omega))⟩

set_option maxHeartbeats 1000000 in
theorem refMark_any (n : Nv) (w : World) (h0 : 0 ≤ n.mode) (h1 : n.mode < 4096) :
    Calls Tryd.prog 14 #[nodeV n] w fun e w' => e = .returned (.string (txt (markL n.kind n.mode))) ∧ Below w.heap.size w w' := by
  have HS := Lib.hid (fun w => anyX_any n.mode w h0 h1)
  clear h0 h1
  unfold nodeV
  by_cases h2 : n.kind = 2
  · have HR := Lib.hid (show markL n.kind n.mode = [47] by unfold markL; rw [if_pos h2])
    have t2 : (n.kind == 2) = true := beq_iff_eq.2 h2
    clear h2
    go_enter Tryd.func14, Tryd.ntmps14
    go_wp2
    go_ret
    exact ⟨by rw [HR.out]; rfl, by (repeat (first | (with_reducible apply Below.setCell (hp := ?_)) | (with_reducible apply Below.alloc (hB := ?_)) | (with_reducible exact Below.refl _ _) | (simp; done) | omega))⟩
  · have t2 : (n.kind == 2) = false := beq_eq_false_iff_ne.2 h2
    by_cases h3 : n.kind = 3
    · have HR := Lib.hid (show markL n.kind n.mode = [64] by unfold markL; rw [if_neg h2, if_pos h3])
      have t3 : (n.kind == 3) = true := beq_iff_eq.2 h3
      clear h2 h3
      go_enter Tryd.func14, Tryd.ntmps14
      go_wp2
      go_ret
      exact ⟨by rw [HR.out]; rfl, by (repeat (first | (with_reducible apply Below.setCell (hp := ?_)) | (with_reducible apply Below.alloc (hB := ?_)) | (with_reducible exact Below.refl _ _) | (simp; done) | omega))⟩
    · have t3 : (n.kind == 3) = false := beq_eq_false_iff_ne.2 h3
      by_cases h1 : n.kind = 1
      · have t1 : (n.kind == 1) = true := beq_iff_eq.2 h1
        cases ha : anyB n.mode
        · have HR := Lib.hid (show markL n.kind n.mode = [] by unfold markL; rw [if_neg h2, if_neg h3, if_neg (by rw [ha]; simp)])
          rw [ha] at HS
          clear h2 h3 h1 ha
          go_enter Tryd.func14, Tryd.ntmps14
          go_wp2_with fail
          refine (HS.out _).mono ?_
          rintro e w1 ⟨rfl, rfl⟩
          go_wp2_with fail
          go_ret
          exact ⟨by rw [HR.out]; rfl, by (repeat (first | (with_reducible apply Below.setCell (hp := ?_)) | (with_reducible apply Below.alloc (hB := ?_)) | (with_reducible exact Below.refl _ _) | (simp; done) | omega))⟩
        · have HR := Lib.hid (show markL n.kind n.mode = [42] by unfold markL; rw [if_neg h2, if_neg h3, if_pos ⟨h1, ha⟩])
          rw [ha] at HS
          clear h2 h3 h1 ha
          go_enter Tryd.func14, Tryd.ntmps14
          go_wp2_with fail
          refine (HS.out _).mono ?_
          rintro e w1 ⟨rfl, rfl⟩
          go_wp2_with fail
          go_ret
          exact ⟨by rw [HR.out]; rfl, by (repeat (first | (with_reducible apply Below.setCell (hp := ?_)) | (with_reducible apply Below.alloc (hB := ?_)) | (with_reducible exact Below.refl _ _) | (simp; done) | omega))⟩
      · have HR := Lib.hid (show markL n.kind n.mode = [] by unfold markL; rw [if_neg h2, if_neg h3, if_neg (by simp [h1])])
        have t1 : (n.kind == 1) = false := beq_eq_false_iff_ne.2 h1
        clear h2 h3 h1
        go_enter Tryd.func14, Tryd.ntmps14
        go_wp2
        go_ret
        exact ⟨by rw [HR.out]; rfl, by (repeat (first | (with_reducible apply Below.setCell (hp := ?_)) | (with_reducible apply Below.alloc (hB := ?_)) | (with_reducible exact Below.refl _ _) | (simp; done) | omega))⟩

theorem kindAt1 : ∀ w : World, (Instr.index 52 (.agg #[.string ⟨#[]⟩, .string ⟨#[45]⟩, .string ⟨#[100]⟩, .string ⟨#[108]⟩]) (.int .i64 1)).run Tryd.prog w = .ok (.string ⟨#[45]⟩) w := fun _ => by kernel_rfl
theorem kindAt2 : ∀ w : World, (Instr.index 52 (.agg #[.string ⟨#[]⟩, .string ⟨#[45]⟩, .string ⟨#[100]⟩, .string ⟨#[108]⟩]) (.int .i64 2)).run Tryd.prog w = .ok (.string ⟨#[100]⟩) w := fun _ => by kernel_rfl
theorem kindAt3 : ∀ w : World, (Instr.index 52 (.agg #[.string ⟨#[]⟩, .string ⟨#[45]⟩, .string ⟨#[100]⟩, .string ⟨#[108]⟩]) (.int .i64 3)).run Tryd.prog w = .ok (.string ⟨#[108]⟩) w := fun _ => by kernel_rfl
set_option maxHeartbeats 1000000 in
theorem refKind_any (n : Nv) (w : World) :
    Calls Tryd.prog 12 #[nodeV n] w fun e w' => e = .returned (.string (txt (kindL n.kind))) ∧ Below w.heap.size w w' := by
  unfold nodeV
  by_cases hlo : n.kind < 1
  · have HR := Lib.hid (show kindL n.kind = [63] by unfold kindL; rw [if_neg (by omega), if_neg (by omega), if_neg (by omega)])
    have d1 : decide (n.kind < 1) = true := decide_eq_true hlo
    clear hlo
    go_enter Tryd.func12, Tryd.ntmps12
    go_wp2
    go_ret
    exact ⟨by rw [HR.out]; rfl, by (repeat (first | (with_reducible apply Below.setCell (hp := ?_)) | (with_reducible apply Below.alloc (hB := ?_)) | (with_reducible exact Below.refl _ _) | (simp; done) | omega))⟩
  · have d1 : decide (n.kind < 1) = false := decide_eq_false hlo
    by_cases hhi : 3 < n.kind
    · have HR := Lib.hid (show kindL n.kind = [63] by unfold kindL; rw [if_neg (by omega), if_neg (by omega), if_neg (by omega)])
      have d2 : decide (3 < n.kind) = true := decide_eq_true hhi
      clear hlo hhi
      go_enter Tryd.func12, Tryd.ntmps12
      go_wp2
      go_ret
      exact ⟨by rw [HR.out]; rfl, by (repeat (first | (with_reducible apply Below.setCell (hp := ?_)) | (with_reducible apply Below.alloc (hB := ?_)) | (with_reducible exact Below.refl _ _) | (simp; done) | omega))⟩
    · have hk : n.kind = 1 ∨ n.kind = 2 ∨ n.kind = 3 := by omega
      clear d1 hlo hhi
      obtain ⟨dev, ino, kind, mode, uid, gid, size, blocks, links, ta, tb, tc, target⟩ := n
      dsimp only at hk
      rcases hk with rfl | rfl | rfl <;> (
        dsimp only
        have k1 := kindAt1
        have k2 := kindAt2
        have k3 := kindAt3
        go_enter Tryd.func12, Tryd.ntmps12
        go_wp2
        go_ret
        exact ⟨rfl, by (repeat (first | (with_reducible apply Below.setCell (hp := ?_)) | (with_reducible apply Below.alloc (hB := ?_)) | (with_reducible exact Below.refl _ _) | (simp; done) | omega))⟩)
end Go.Proofs.YtgnlbmpejkdoiaaDoor
