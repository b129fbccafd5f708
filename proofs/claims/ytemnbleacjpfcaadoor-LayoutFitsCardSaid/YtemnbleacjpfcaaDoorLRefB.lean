/-
  What the reference's Best returns: the columns that are taken. Conditions: at most 1000 names of at most 60000 bytes, in memory.
-/
import Derived.Test.YtemnbleacjpfcaaDoorLRefA
set_option linter.unusedVariables false
namespace Go.Proofs.YtemnbleacjpfcaaDoor.L
open Go.Proofs.YtemnbleacjpfcaaDoor.W hiding ret_int below_two
open Go.Proofs.YtemnbleacjpfcaaDoor.N hiding ret_int
open Go.Proofs.YtemnbleacjpfcaaDoor.B
open Go.RowKit

theorem inL_own {W : World} {base : Nat} {a : Option Addr} {cap : Nat} {x : List ByteArray} (h : W.ownsRow base 9 1 (.slice a x.length cap) x.length (strs x)) : InL W a x := by
  obtain ⟨a', c, e, h2⟩ := inL_of h
  cases e
  exact h2
theorem sumW_take {C : List (List ByteArray)} {j : Nat} {x : List ByteArray} (h : C[j]? = some x) : sumW (C.take (j + 1)) = sumW (C.take j) + (wideL x + 2) := by
  rw [List.take_add_one, h]
  exact sumW_snoc _ _
theorem sumW_take_bd {C : List (List ByteArray)} {j : Nat} (hC : C.length ≤ 1000) (h : ∀ c ∈ C, ∀ x ∈ c, x.size ≤ 60000) : 0 ≤ sumW (C.take j) ∧ sumW (C.take j) ≤ 200000000 := by
  have h1 := sumW_nonneg (C.take j)
  have h2 := sumW_le (C := C.take j) (m := 120000) fun c hc => by
    have := wideL_small (h c (List.mem_of_mem_take hc))
    omega
  have h3 : (C.take j).length ≤ 1000 := by rw [List.length_take]; omega
  omega
def BestRel (l : List ByteArray) (most : Int) (across : Bool) (n : Nat) (w : World) (v : Value) (wr : World) : Prop :=
  ∃ k : Nat, v = .int .i64 (k : Int) ∧ 1 ≤ k ∧ k ≤ n ∧ Hid (bestF l most across n = bestF l most across k) ∧ Hid (Below w.heap.size w wr)
def SumRel (C : List (List ByteArray)) (m : Nat) (w : World) (s v : Value) (wr : World) : Prop :=
  ∃ (j : Nat) (S : Int), v = .int .i64 (j : Int) ∧ s = .int .i64 S ∧ j ≤ m ∧ Hid (S = sumW (C.take j)) ∧ Hid (Below w.heap.size w wr)
set_option maxRecDepth 100000 in
set_option maxHeartbeats 16000000 in
theorem rbest_any (l : List ByteArray) (a : Option Addr) (cap : Nat) (most : Int) (across : Bool) (w : World) (H : InL w a l) (hl : l.length ≤ 1000) (hz : ∀ x ∈ l, x.size ≤ 60000) (h1 : 1 ≤ l.length) :
    Calls Tryd.prog 14 #[.slice a l.length cap, .int .i64 most, .bool across] w fun e w' => ∃ g m, e = .returned (ownS g m) ∧ m = bestF l most across l.length ∧ ColsAt w' w.heap.size 22 9 g (bestL l most across) ∧ Below w.heap.size w w' := by
  have HCo := Lib.hid (fun (W : World) (hX : InL W a l) cols hc hm => columns_any l a cap cols across W hX hl hz hc hm)
  have HX := Lib.hid H
  have HZ := Lib.hid hz
  have HBL := Lib.hid (show bestL l most across = colsL l (bestF l most across l.length) across from rfl)
  clear H hz
  obtain ⟨n, hn⟩ : ∃ n, l.length = n := ⟨_, rfl⟩
  have HN := Lib.hid hn
  rw [hn] at hl h1 HCo HBL ⊢
  clear hn
  go_enter Tryd.func14, Tryd.ntmps14
  go_wp2
  go_loopw [7] (BestRel l most across n w) (fun v _ => (intOf v).toNat)
  case atStart => exact ⟨n, rfl, h1, Nat.le_refl _, Lib.hid rfl, Lib.hid (Below.refl _ _)⟩
  case round =>
    obtain ⟨k, rfl, hk1, hk2, HF, HB⟩ := hrel
    by_cases hi : 1 < k
    · have e1 : decide ((1 : Int) < (k : Int)) = true := decide_eq_true (by omega)
      have HSt := Lib.hid (best_step (l := l) (most := most) (across := across) hi)
      go_wp2_with fail
      refine (HCo.out wr (HX.out.keep HB.out) k hk1 hk2).mono ?_
      rintro e w2 ⟨g, rfl, hC, hb⟩
      have HC := Lib.hid (show ColsAt w2 w.heap.size 22 9 g (colsL l k across) from ⟨Nat.le_trans HB.out.size hC.lo, by
        obtain ⟨vs, q1, q2, q3⟩ := hC.row
        exact ⟨vs, q1, q2, fun c v x hv hx => owns_lower (q3 c v x hv hx) HB.out.size⟩⟩)
      have HB2 := Lib.hid (below_two HB.out hb)
      clear hC hb
      have hlen := colsL_len l k across
      have hsm := fun j => sumW_take_bd (C := colsL l k across) (j := j) (by omega) (fun c hc x hx => HZ.out x (colsL_mem hc hx))
      have HFi := Lib.hid (show fitsB l most across k = (decide (most ≤ 0) || decide (sumW (colsL l k across) - 2 ≤ most)) from rfl)
      have HMem := Lib.hid (fun c hc x hx => HZ.out x (colsL_mem (l := l) (cols := k) (across := across) (c := c) hc (x := x) hx))
      have HFew := Lib.hid (fun c hc => colsL_few (l := l) (cols := k) (across := across) (c := c) hc)
      obtain ⟨C, hCC⟩ : ∃ C, colsL l k across = C := ⟨_, rfl⟩
      have HCC := Lib.hid hCC
      rw [hCC] at HC hlen hsm HFi HMem HFew
      clear hCC
      go_wp2_with fail
      go_loopw [9, 10] (SumRel C k w2) (fun _ v _ => k - (intOf v).toNat)
      case atStart => exact ⟨0, 0, rfl, rfl, Nat.zero_le _, Lib.hid rfl, Lib.hid (Below.refl _ _)⟩
      case round =>
        obtain ⟨j, S, rfl, rfl, hj, HS, HBj⟩ := hrel
        have hSb : 0 ≤ S ∧ S ≤ 200000000 := by rw [HS.out]; exact hsm j
        by_cases hjk : j < k
        · have e2 : decide ((j : Int) < (k : Int)) = true := decide_eq_true (by omega)
          obtain ⟨x, hx⟩ : ∃ x, C[j]? = some x := ⟨_, List.getElem?_eq_getElem (by omega)⟩
          have hxm := List.mem_of_getElem? hx
          obtain ⟨ao, capx, g0, _, g2⟩ := (HC.out.keep HBj.out).get hx
          have HS2 := Lib.hid (sumW_take hx)
          have hxl := HFew.out x hxm
          have hxz := HMem.out x hxm
          have hwx : 0 ≤ wideL x ∧ wideL x ≤ 120000 := ⟨wideL_nonneg _, by have := wideL_small hxz; omega⟩
          have HWd := Lib.hid (widest_any x ao capx _ (inL_own g2) (by have := HN.out; omega) hxz)
          clear hx hxz g2 hxm
          go_wp2_with fail
          refine HWd.out.mono ?_
          rintro e w4 ⟨rfl, hb4⟩
          have HB4 := Lib.hid (below_two HBj.out hb4)
          clear hb4 g0 HWd
          generalize wideL x = Z at *
          go_wp2_with fail
          go_roundw
          case rel => exact ⟨j + 1, _, by go_num, rfl, by omega, Lib.hid (by rw [HS2.out, ← HS.out]), HB4⟩
          case measure => simp [intOf]; omega
        · have e2 : decide ((j : Int) < (k : Int)) = false := decide_eq_false (by omega)
          have hje : j = k := by omega
          subst hje
          have HSe := Lib.hid (show S = sumW C from by have := HS.out; rwa [List.take_of_length_le (by omega)] at this)
          have HBe := Lib.hid (below_two HB2.out HBj.out)
          have HCe := Lib.hid (HC.out.keep HBj.out)
          by_cases hm0 : most ≤ 0
          · have m1 : decide (most ≤ 0) = true := decide_eq_true hm0
            have HT := Lib.hid (show bestF l most across n = j from by rw [HF.out, HSt.out, HFi.out, m1]; rfl)
            go_wp2_with fail
            go_ret
            exact ⟨g, j, rfl, HT.out.symm, by rw [HBL.out, HT.out, HCC.out]; exact HCe.out, HBe.out⟩
          · have m1 : decide (most ≤ 0) = false := decide_eq_false hm0
            by_cases hm2 : S - 2 ≤ most
            · have m2 : decide (S - 2 ≤ most) = true := decide_eq_true hm2
              have HT := Lib.hid (show bestF l most across n = j from by rw [HF.out, HSt.out, HFi.out, ← HSe.out, m1, m2]; rfl)
              go_wp2_with fail
              go_ret
              exact ⟨g, j, rfl, HT.out.symm, by rw [HBL.out, HT.out, HCC.out]; exact HCe.out, HBe.out⟩
            · have m2 : decide (S - 2 ≤ most) = false := decide_eq_false hm2
              have HT := Lib.hid (show bestF l most across n = bestF l most across (j - 1) from by rw [HF.out, HSt.out, HFi.out, ← HSe.out, m1, m2]; rfl)
              go_wp2_with fail
              go_roundw
              case rel => exact ⟨j - 1, by congr 1; omega, by omega, by omega, HT, HBe⟩
              case measure => simp [intOf]; omega
    · have e1 : decide ((1 : Int) < (k : Int)) = false := decide_eq_false (by omega)
      have hke : k = 1 := by omega
      subst hke
      have HT := Lib.hid (show bestF l most across n = 1 from HF.out)
      go_wp2_with fail
      refine (HCo.out wr (HX.out.keep HB.out) 1 (by omega) (by omega)).mono ?_
      rintro e w2 ⟨g, rfl, hC, hb⟩
      have HC := Lib.hid (show ColsAt w2 w.heap.size 22 9 g (colsL l 1 across) from ⟨Nat.le_trans HB.out.size hC.lo, by
        obtain ⟨vs, q1, q2, q3⟩ := hC.row
        exact ⟨vs, q1, q2, fun c v x hv hx => owns_lower (q3 c v x hv hx) HB.out.size⟩⟩)
      have HB2 := Lib.hid (below_two HB.out hb)
      clear hC hb
      go_wp2_with fail
      go_ret
      exact ⟨g, 1, rfl, HT.out.symm, by rw [HBL.out, HT.out]; exact HC.out, HB2.out⟩
end Go.Proofs.YtemnbleacjpfcaaDoor.L
