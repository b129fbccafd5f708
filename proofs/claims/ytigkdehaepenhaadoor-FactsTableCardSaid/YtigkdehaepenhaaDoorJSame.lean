/-
  That lists of texts that are the same are told so. Conditions: both lie in memory; no longer than 1000000.
-/
import Derived.Test.YtigkdehaepenhaaDoorRow
set_option linter.unusedSimpArgs false
set_option linter.unusedVariables false
namespace Go.Proofs.YtigkdehaepenhaaDoor.J
open Go.Proofs.YtigkdehaepenhaaDoor.B
open Go.RowKit

def SameRel (n : Nat) (w : World) (v : Value) (wr : World) : Prop := ∃ k : Nat, v = .int .i64 (k : Int) ∧ k ≤ n ∧ Hid (Below w.heap.size w wr)
set_option maxHeartbeats 4000000 in
theorem same_any (x : List ByteArray) (g1 g2 c1 c2 : Nat) (w : World) (l1 : g1 < w.heap.size) (l2 : g2 < w.heap.size) (H1 : ∀ (k : Nat) (S : ByteArray), x[k]? = some S → w.cell? ⟨g1, k, none⟩ = some (.string S)) (H2 : ∀ (k : Nat) (S : ByteArray), x[k]? = some S → w.cell? ⟨g2, k, none⟩ = some (.string S)) (hl : x.length ≤ 1000000) :
    Calls Tryd.prog 5 #[.slice (some ⟨g1, 0, none⟩) x.length c1, .slice (some ⟨g2, 0, none⟩) x.length c2] w fun e w' => e = .returned (.bool true) ∧ Below w.heap.size w w' := by
  have HX := Lib.hid (fun (X : World) (hb : Below w.heap.size w X) (k : Nat) (S : ByteArray) (h : x[k]? = some S) => (hb.cell (p := ⟨g1, k, none⟩) l1).trans (H1 k S h))
  have HY := Lib.hid (fun (X : World) (hb : Below w.heap.size w X) (k : Nat) (S : ByteArray) (h : x[k]? = some S) => (hb.cell (p := ⟨g2, k, none⟩) l2).trans (H2 k S h))
  clear H1 H2 l1 l2
  have d0 : ((x.length : Int) != (x.length : Int)) = false := by simp
  go_enter Tryd.func5, Tryd.ntmps5
  go_wp2
  go_loopw [5] (SameRel x.length w) (fun v _ => x.length - (intOf v).toNat)
  case atStart => exact ⟨0, rfl, Nat.zero_le _, Lib.hid (Below.refl _ _)⟩
  case round =>
    obtain ⟨k, rfl, hk, HB⟩ := hrel
    by_cases h1 : k < x.length
    · have e1 : decide ((k : Int) < (x.length : Int)) = true := decide_eq_true (by omega)
      obtain ⟨S, hS⟩ : ∃ S, x[k]? = some S := ⟨_, List.getElem?_eq_getElem h1⟩
      have q1 := HX.out _ HB.out k S hS
      have q2 := HY.out _ HB.out k S hS
      clear hS
      have hne : (S.toList != S.toList) = false := by simp
      go_upto_region 6 with fail
      go_quiet (fail)
      have HB2 := Lib.hid (show Below w.heap.size w (wr.drewN nq) from below_drewNb HB.out)
      generalize wr.drewN nq = w2 at *
      clear q1 q2
      go_wp2_with fail
      go_roundw
      case rel => exact ⟨k + 1, by go_num, by omega, HB2⟩
      case measure => simp [intOf]; omega
    · have e1 : decide ((k : Int) < (x.length : Int)) = false := decide_eq_false (by omega)
      go_wp2_with fail
      go_ret
      exact ⟨rfl, HB.out⟩
end Go.Proofs.YtigkdehaepenhaaDoor.J
