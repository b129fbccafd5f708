/-
  What perm's bitsFor and May return. Conditions: the table of classes lies as its text lays it.
-/
import Derived.Test.YtgnlbmpejkdoiaaDoorPSearched
set_option linter.unusedVariables false
namespace Go.Proofs.YtgnlbmpejkdoiaaDoor
open Go.RowKit

def credV (u g : Int) : Value := .agg #[.int .i64 u, .int .i64 g]
def bitsP (n : Nv) (u g : Int) : Int := if u = 0 then (if n.kind = 2 ∨ anyB n.mode = true then 7 else 6) else if u = n.uid then n.mode / 2 ^ 6 else if g = n.gid then n.mode / 2 ^ 3 else n.mode 
theorem ret_int {k : IntKind} {a b : Int} (h : a = b) : Ending.returned (.int k a) = .returned (.int k b) := by rw [h]

set_option maxHeartbeats 1000000 in
theorem bitsFor_any (n : Nv) (u g : Int) (w : World) (ht : Tab w) :
    Calls Tryd.prog 15 #[nodeV n, credV u g] w fun e w' => e = .returned (.int .i64 (bitsP n u g)) ∧ Below w.heap.size w w' := by
  have HT := Lib.hid ht
  clear ht
  unfold nodeV credV
  by_cases h0 : u = 0
  · subst h0
    by_cases h2 : n.kind = 2
    · have HR := Lib.hid (show bitsP n 0 g = 7 by unfold bitsP; rw [if_pos rfl, if_pos (.inl h2)])
      have t2 : (n.kind == 2) = true := by rw [h2]; rfl
      clear h2
      go_enter Tryd.func15, Tryd.ntmps15
      go_wp2
      go_ret
      exact ⟨ret_int HR.out.symm, by (repeat (first | (with_reducible apply Below.setCell (hp := ?_)) | (with_reducible apply Below.alloc (hB := ?_)) | (with_reducible exact Below.refl _ _) | (simp; done) | omega))⟩
    · have t2 : (n.kind == 2) = false := beq_eq_false_iff_ne.2 h2
      cases hq : anyB n.mode
      · have HR := Lib.hid (show bitsP n 0 g = 6 by unfold bitsP; rw [if_pos rfl, if_neg (by rw [hq]; simp [h2])])
        have HS := Lib.hid (searched_any n)
        rw [hq] at HS
        unfold nodeV at HS
        clear h2 hq
        go_enter Tryd.func15, Tryd.ntmps15
        go_wp2_with fail
        refine (HS.out _ (HT.out.keep (by (repeat (first | (with_reducible apply Below.setCell (hp := ?_)) | (with_reducible apply Below.alloc (hB := ?_)) | (with_reducible exact Below.refl _ _) | (simp; done) | omega))))).mono ?_
        rintro e w1 ⟨rfl, hb1⟩
        have HB := Lib.hid (show Below w.heap.size w w1 from (show Below w.heap.size w _ from by (repeat (first | (with_reducible apply Below.setCell (hp := ?_)) | (with_reducible apply Below.alloc (hB := ?_)) | (with_reducible exact Below.refl _ _) | (simp; done) | omega))).trans (hb1.mono (by simp; omega)))
        have c1 : w1.cell? ⟨w.heap.size + 1, 0, none⟩ = some (.int .i64 0) := by rw [hb1.cell (by simp)]; go_simp
        clear hb1
        go_wp2_with fail
        go_ret
        exact ⟨ret_int HR.out.symm, HB.out⟩
      · have HR := Lib.hid (show bitsP n 0 g = 7 by unfold bitsP; rw [if_pos rfl, if_pos (.inr hq)])
        have HS := Lib.hid (searched_any n)
        rw [hq] at HS
        unfold nodeV at HS
        clear h2 hq
        go_enter Tryd.func15, Tryd.ntmps15
        go_wp2_with fail
        refine (HS.out _ (HT.out.keep (by (repeat (first | (with_reducible apply Below.setCell (hp := ?_)) | (with_reducible apply Below.alloc (hB := ?_)) | (with_reducible exact Below.refl _ _) | (simp; done) | omega))))).mono ?_
        rintro e w1 ⟨rfl, hb1⟩
        have HB := Lib.hid (show Below w.heap.size w w1 from (show Below w.heap.size w _ from by (repeat (first | (with_reducible apply Below.setCell (hp := ?_)) | (with_reducible apply Below.alloc (hB := ?_)) | (with_reducible exact Below.refl _ _) | (simp; done) | omega))).trans (hb1.mono (by simp; omega)))
        have c1 : w1.cell? ⟨w.heap.size + 1, 0, none⟩ = some (.int .i64 0) := by rw [hb1.cell (by simp)]; go_simp
        clear hb1
        go_wp2_with fail
        go_ret
        exact ⟨ret_int HR.out.symm, HB.out⟩
  · have t0 : (u == 0) = false := beq_eq_false_iff_ne.2 h0
    by_cases hu : u = n.uid
    · have HR := Lib.hid (show bitsP n u g = n.mode / 2 ^ 6 by unfold bitsP; rw [if_neg h0, if_pos hu])
      have t1 : (u == n.uid) = true := beq_iff_eq.2 hu
      clear hu h0
      go_enter Tryd.func15, Tryd.ntmps15
      go_wp2
      go_ret
      exact ⟨ret_int HR.out.symm, by (repeat (first | (with_reducible apply Below.setCell (hp := ?_)) | (with_reducible apply Below.alloc (hB := ?_)) | (with_reducible exact Below.refl _ _) | (simp; done) | omega))⟩
    · have t1 : (u == n.uid) = false := beq_eq_false_iff_ne.2 hu
      by_cases hg : g = n.gid
      · have HR := Lib.hid (show bitsP n u g = n.mode / 2 ^ 3 by unfold bitsP; rw [if_neg h0, if_neg hu, if_pos hg])
        have t3 : (g == n.gid) = true := beq_iff_eq.2 hg
        clear hu h0 hg
        go_enter Tryd.func15, Tryd.ntmps15
        go_wp2
        go_ret
        exact ⟨ret_int HR.out.symm, by (repeat (first | (with_reducible apply Below.setCell (hp := ?_)) | (with_reducible apply Below.alloc (hB := ?_)) | (with_reducible exact Below.refl _ _) | (simp; done) | omega))⟩
      · have HR := Lib.hid (show bitsP n u g = n.mode by unfold bitsP; rw [if_neg h0, if_neg hu, if_neg hg])
        have t3 : (g == n.gid) = false := beq_eq_false_iff_ne.2 hg
        clear hu h0 hg
        go_enter Tryd.func15, Tryd.ntmps15
        go_wp2
        go_ret
        exact ⟨ret_int HR.out.symm, by (repeat (first | (with_reducible apply Below.setCell (hp := ?_)) | (with_reducible apply Below.alloc (hB := ?_)) | (with_reducible exact Below.refl _ _) | (simp; done) | omega))⟩

def mayB (b want : Int) : Bool := (!bitB want 2 || bitB b 2) && (!bitB want 1 || bitB b 1) && (!bitB want 0 || bitB b 0)
/-- Before the round for bit a: all that is wanted of the bits above it is there. -/
def MRel (W : World) (b want : Int) (v : Value) (w : World) : Prop :=
  ∃ a : Int, -1 ≤ a ∧ a ≤ 2 ∧ v = .int .i64 a ∧ Hid ((a < 2 → (!bitB want 2 || bitB b 2) = true) ∧ (a < 1 → (!bitB want 1 || bitB b 1) = true) ∧ (a < 0 → (!bitB want 0 || bitB b 0) = true)) ∧ Below W.heap.size W w

set_option maxHeartbeats 1000000 in
theorem may_any (n : Nv) (u g want : Int) (w : World) (ht : Tab w) :
    Calls Tryd.prog 7 #[nodeV n, credV u g, .int .i64 want] w fun e w' => e = .returned (.bool (mayB (bitsP n u g) want)) ∧ Below w.heap.size w w' := by
  have HT := Lib.hid ht
  clear ht
  obtain ⟨b, hbp⟩ : ∃ b, bitsP n u g = b := ⟨_, rfl⟩
  have HC := Lib.hid (bitsFor_any n u g)
  rw [hbp] at HC
  rw [hbp]
  clear hbp
  unfold nodeV credV at HC
  unfold nodeV credV
  go_enter Tryd.func7, Tryd.ntmps7
  go_wp2_with fail
  refine (HC.out _ (HT.out.keep (by (repeat (first | (with_reducible apply Below.setCell (hp := ?_)) | (with_reducible apply Below.alloc (hB := ?_)) | (with_reducible exact Below.refl _ _) | (simp; done) | omega))))).mono ?_
  rintro e w1 ⟨rfl, hb1⟩
  have HB := Lib.hid (show Below w.heap.size w w1 from (show Below w.heap.size w _ from by (repeat (first | (with_reducible apply Below.setCell (hp := ?_)) | (with_reducible apply Below.alloc (hB := ?_)) | (with_reducible exact Below.refl _ _) | (simp; done) | omega))).trans (hb1.mono (by simp; omega)))
  clear hb1
  go_wp2_with fail
  go_loopw [8] (MRel w b want) (fun v _ => (intOf v + 1).toNat)
  case atStart => exact ⟨2, by decide, by decide, rfl, Lib.hid ⟨by omega, by omega, by omega⟩, HB.out⟩
  case round =>
    clear HB
    obtain ⟨a, ha0, ha1, rfl, hz, hb⟩ := hrel
    have HB := Lib.hid hb
    clear hb
    have ha : a = 2 ∨ a = 1 ∨ a = 0 ∨ a = -1 := by omega
    clear ha0 ha1
    rcases ha with rfl | rfl | rfl | rfl
    · have set1 := fun w' => setAt 2 2 rfl (by decide) want w'
      have set2 := fun w' => setAt 2 2 rfl (by decide) b w'
      cases hq : bitB want 2
      · have HQ := Lib.hid hq
        have HZ : Hid (((1 : Int) < 2 → (!bitB want 2 || bitB b 2) = true) ∧ ((1 : Int) < 1 → (!bitB want 1 || bitB b 1) = true) ∧ ((1 : Int) < 0 → (!bitB want 0 || bitB b 0) = true)) := Lib.hid (by have := hz.out; simp_all)
        have H1 := Lib.hid set1
        clear hq hz set1 set2
        go_wp2_with (go_at_call 16; refine (H1.out _).mono ?_; rintro e w' ⟨rfl, rfl⟩; rw [HQ.out])
        go_roundw
        case rel => exact ⟨1, by decide, by decide, rfl, HZ, HB.out⟩
        case measure => decide
      · cases hp : bitB b 2
        · have HF := Lib.hid (show mayB b want = false by unfold mayB; rw [hq, hp]; simp)
          have HQ := Lib.hid hq
          have HP := Lib.hid hp
          have H1 := Lib.hid set1
          have H2 := Lib.hid set2
          clear hq hp hz set1 set2
          go_wp2_with fail
          refine (H1.out _).mono ?_
          rintro e w' ⟨rfl, rfl⟩
          rw [HQ.out]
          go_wp2_with fail
          refine (H2.out _).mono ?_
          rintro e w' ⟨rfl, rfl⟩
          rw [HP.out]
          go_wp2_with fail
          go_ret
          exact ⟨ret_bool HF.out.symm, HB.out⟩
        · have HQ := Lib.hid hq
          have HP := Lib.hid hp
          have HZ : Hid (((1 : Int) < 2 → (!bitB want 2 || bitB b 2) = true) ∧ ((1 : Int) < 1 → (!bitB want 1 || bitB b 1) = true) ∧ ((1 : Int) < 0 → (!bitB want 0 || bitB b 0) = true)) := Lib.hid (by have := hz.out; simp_all)
          have H1 := Lib.hid set1
          have H2 := Lib.hid set2
          clear hq hp hz set1 set2
          go_wp2_with fail
          refine (H1.out _).mono ?_
          rintro e w' ⟨rfl, rfl⟩
          rw [HQ.out]
          go_wp2_with fail
          refine (H2.out _).mono ?_
          rintro e w' ⟨rfl, rfl⟩
          rw [HP.out]
          go_wp2_with fail
          go_roundw
          case rel => exact ⟨1, by decide, by decide, rfl, HZ, HB.out⟩
          case measure => decide
    · have set1 := fun w' => setAt 1 1 rfl (by decide) want w'
      have set2 := fun w' => setAt 1 1 rfl (by decide) b w'
      cases hq : bitB want 1
      · have HQ := Lib.hid hq
        have HZ : Hid (((0 : Int) < 2 → (!bitB want 2 || bitB b 2) = true) ∧ ((0 : Int) < 1 → (!bitB want 1 || bitB b 1) = true) ∧ ((0 : Int) < 0 → (!bitB want 0 || bitB b 0) = true)) := Lib.hid (by have := hz.out; simp_all)
        have H1 := Lib.hid set1
        clear hq hz set1 set2
        go_wp2_with (go_at_call 16; refine (H1.out _).mono ?_; rintro e w' ⟨rfl, rfl⟩; rw [HQ.out])
        go_roundw
        case rel => exact ⟨0, by decide, by decide, rfl, HZ, HB.out⟩
        case measure => decide
      · cases hp : bitB b 1
        · have HF := Lib.hid (show mayB b want = false by unfold mayB; rw [hq, hp]; simp)
          have HQ := Lib.hid hq
          have HP := Lib.hid hp
          have H1 := Lib.hid set1
          have H2 := Lib.hid set2
          clear hq hp hz set1 set2
          go_wp2_with fail
          refine (H1.out _).mono ?_
          rintro e w' ⟨rfl, rfl⟩
          rw [HQ.out]
          go_wp2_with fail
          refine (H2.out _).mono ?_
          rintro e w' ⟨rfl, rfl⟩
          rw [HP.out]
          go_wp2_with fail
          go_ret
          exact ⟨ret_bool HF.out.symm, HB.out⟩
        · have HQ := Lib.hid hq
          have HP := Lib.hid hp
          have HZ : Hid (((0 : Int) < 2 → (!bitB want 2 || bitB b 2) = true) ∧ ((0 : Int) < 1 → (!bitB want 1 || bitB b 1) = true) ∧ ((0 : Int) < 0 → (!bitB want 0 || bitB b 0) = true)) := Lib.hid (by have := hz.out; simp_all)
          have H1 := Lib.hid set1
          have H2 := Lib.hid set2
          clear hq hp hz set1 set2
          go_wp2_with fail
          refine (H1.out _).mono ?_
          rintro e w' ⟨rfl, rfl⟩
          rw [HQ.out]
          go_wp2_with fail
          refine (H2.out _).mono ?_
          rintro e w' ⟨rfl, rfl⟩
          rw [HP.out]
          go_wp2_with fail
          go_roundw
          case rel => exact ⟨0, by decide, by decide, rfl, HZ, HB.out⟩
          case measure => decide
    · have set1 := fun w' => setAt 0 0 rfl (by decide) want w'
      have set2 := fun w' => setAt 0 0 rfl (by decide) b w'
      cases hq : bitB want 0
      · have HQ := Lib.hid hq
        have HZ : Hid (((-1 : Int) < 2 → (!bitB want 2 || bitB b 2) = true) ∧ ((-1 : Int) < 1 → (!bitB want 1 || bitB b 1) = true) ∧ ((-1 : Int) < 0 → (!bitB want 0 || bitB b 0) = true)) := Lib.hid (by have := hz.out; simp_all)
        have H1 := Lib.hid set1
        clear hq hz set1 set2
        go_wp2_with (go_at_call 16; refine (H1.out _).mono ?_; rintro e w' ⟨rfl, rfl⟩; rw [HQ.out])
        go_roundw
        case rel => exact ⟨-1, by decide, by decide, rfl, HZ, HB.out⟩
        case measure => decide
      · cases hp : bitB b 0
        · have HF := Lib.hid (show mayB b want = false by unfold mayB; rw [hq, hp]; simp)
          have HQ := Lib.hid hq
          have HP := Lib.hid hp
          have H1 := Lib.hid set1
          have H2 := Lib.hid set2
          clear hq hp hz set1 set2
          go_wp2_with fail
          refine (H1.out _).mono ?_
          rintro e w' ⟨rfl, rfl⟩
          rw [HQ.out]
          go_wp2_with fail
          refine (H2.out _).mono ?_
          rintro e w' ⟨rfl, rfl⟩
          rw [HP.out]
          go_wp2_with fail
          go_ret
          exact ⟨ret_bool HF.out.symm, HB.out⟩
        · have HQ := Lib.hid hq
          have HP := Lib.hid hp
          have HZ : Hid (((-1 : Int) < 2 → (!bitB want 2 || bitB b 2) = true) ∧ ((-1 : Int) < 1 → (!bitB want 1 || bitB b 1) = true) ∧ ((-1 : Int) < 0 → (!bitB want 0 || bitB b 0) = true)) := Lib.hid (by have := hz.out; simp_all)
          have H1 := Lib.hid set1
          have H2 := Lib.hid set2
          clear hq hp hz set1 set2
          go_wp2_with fail
          refine (H1.out _).mono ?_
          rintro e w' ⟨rfl, rfl⟩
          rw [HQ.out]
          go_wp2_with fail
          refine (H2.out _).mono ?_
          rintro e w' ⟨rfl, rfl⟩
          rw [HP.out]
          go_wp2_with fail
          go_roundw
          case rel => exact ⟨-1, by decide, by decide, rfl, HZ, HB.out⟩
          case measure => decide
    · have HA := Lib.hid (show mayB b want = true by obtain ⟨x, y, z⟩ := hz.out; unfold mayB; rw [x (by decide), y (by decide), z (by decide)]; rfl)
      clear hz
      go_wp2
      go_ret
      exact ⟨ret_bool HA.out.symm, HB.out⟩
end Go.Proofs.YtgnlbmpejkdoiaaDoor
