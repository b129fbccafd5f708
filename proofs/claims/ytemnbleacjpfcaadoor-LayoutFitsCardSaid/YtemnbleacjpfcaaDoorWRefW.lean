/-
  What the reference's Width returns: the table's width of the number. Conditions: the number is an int.
-/
import Derived.Test.YtemnbleacjpfcaaDoorWRune
import Derived.Deep.WholeRow
namespace Go.Proofs.YtemnbleacjpfcaaDoor.W
open Go.RowKit

def zAt (j : Nat) : Int × Int := zerosL.getD j (0, 0)
def tAt (j : Nat) : Int × Int := twosL.getD j (0, 0)

theorem inP_on {a b r : Int} {t : List (Int × Int)} (h : ¬ (a ≤ r ∧ r ≤ b)) : inP ((a, b) :: t) r = inP t r := by rw [inP, if_neg h]
theorem inP_in {a b r : Int} {t : List (Int × Int)} (h : a ≤ r ∧ r ≤ b) : inP ((a, b) :: t) r = true := by rw [inP, if_pos h]
theorem drop_z (k : Nat) (hk : k < 5) : zerosL.drop k = zAt k :: zerosL.drop (k + 1) := by
  have hl : k < zerosL.length := hk
  rw [List.drop_eq_getElem_cons hl]
  unfold zAt
  simp [List.getD, hl]
theorem drop_t (k : Nat) (hk : k < 12) : twosL.drop k = tAt k :: twosL.drop (k + 1) := by
  have hl : k < twosL.length := hk
  rw [List.drop_eq_getElem_cons hl]
  unfold tAt
  simp [List.getD, hl]
theorem z_on (k : Nat) (hk : k < 5) (r : Int) (h : ¬ ((zAt k).1 ≤ r ∧ r ≤ (zAt k).2)) : inP (zerosL.drop k) r = inP (zerosL.drop (k + 1)) r := by rw [drop_z k hk]; exact inP_on h
theorem z_in (k : Nat) (hk : k < 5) (r : Int) (h : (zAt k).1 ≤ r ∧ r ≤ (zAt k).2) : inP (zerosL.drop k) r = true := by rw [drop_z k hk]; exact inP_in h
theorem t_on (k : Nat) (hk : k < 12) (r : Int) (h : ¬ ((tAt k).1 ≤ r ∧ r ≤ (tAt k).2)) : inP (twosL.drop k) r = inP (twosL.drop (k + 1)) r := by rw [drop_t k hk]; exact inP_on h
theorem t_in (k : Nat) (hk : k < 12) (r : Int) (h : (tAt k).1 ≤ r ∧ r ≤ (tAt k).2) : inP (twosL.drop k) r = true := by rw [drop_t k hk]; exact inP_in h

theorem ref_zero (r : Int) (h : inP zerosL r = true) : refW r = 0 := by rw [refW, if_pos h]
theorem ref_two (r : Int) (h0 : inP zerosL r = false) (h : inP twosL r = true) : refW r = 2 := by rw [refW, h0, h]; rfl
theorem ref_one (r : Int) (h0 : inP zerosL r = false) (h : inP twosL r = false) : refW r = 1 := by rw [refW, h0, h]; rfl

def ZRel (r : Int) (i : Value) : Prop := ∃ m k : Nat, m = 2 * k ∧ k ≤ 5 ∧ i = .int .i64 (m : Int) ∧ inP (zerosL.drop k) r = inP zerosL r
def TRel (r : Int) (i : Value) : Prop := ∃ m k : Nat, m = 2 * k ∧ k ≤ 12 ∧ i = .int .i64 (m : Int) ∧ inP (twosL.drop k) r = inP twosL r

theorem z_block (w : World) (T : TypeId) : ∃ w1, w.alloc (.cells #[.int .i64 0, .int .i64 31, .int .i64 127, .int .i64 159, .int .i64 768, .int .i64 879, .int .i64 8203, .int .i64 8207, .int .i64 65024, .int .i64 65039] T) = w1 ∧ Below w.heap.size w w1 ∧ ∀ k, k < 5 → w1.cell? ⟨w.heap.size, 2 * k, none⟩ = some (.int .i64 (zAt k).1) ∧ w1.cell? ⟨w.heap.size, 2 * k + 1, none⟩ = some (.int .i64 (zAt k).2) := by
  refine ⟨_, rfl, (Below.refl _ _).alloc (Nat.le_refl _) _, fun k hk => ?_⟩
  rw [World.cell?_alloc_at _ _ _ _ rfl, World.cell?_alloc_at _ _ _ _ rfl]
  match k, hk with
  | 0, _ => exact ⟨rfl, rfl⟩
  | 1, _ => exact ⟨rfl, rfl⟩
  | 2, _ => exact ⟨rfl, rfl⟩
  | 3, _ => exact ⟨rfl, rfl⟩
  | 4, _ => exact ⟨rfl, rfl⟩
theorem t_block (w : World) (T : TypeId) : ∃ w1, w.alloc (.cells #[.int .i64 4352, .int .i64 4447, .int .i64 11904, .int .i64 12350, .int .i64 12353, .int .i64 13311, .int .i64 13312, .int .i64 19903, .int .i64 19968, .int .i64 42191, .int .i64 44032, .int .i64 55203, .int .i64 63744, .int .i64 64255, .int .i64 65072, .int .i64 65135, .int .i64 65280, .int .i64 65376, .int .i64 65504, .int .i64 65510, .int .i64 127744, .int .i64 128591, .int .i64 131072, .int .i64 262141] T) = w1 ∧ Below w.heap.size w w1 ∧ ∀ k, k < 12 → w1.cell? ⟨w.heap.size, 2 * k, none⟩ = some (.int .i64 (tAt k).1) ∧ w1.cell? ⟨w.heap.size, 2 * k + 1, none⟩ = some (.int .i64 (tAt k).2) := by
  refine ⟨_, rfl, (Below.refl _ _).alloc (Nat.le_refl _) _, fun k hk => ?_⟩
  rw [World.cell?_alloc_at _ _ _ _ rfl, World.cell?_alloc_at _ _ _ _ rfl]
  match k, hk with
  | 0, _ => exact ⟨rfl, rfl⟩
  | 1, _ => exact ⟨rfl, rfl⟩
  | 2, _ => exact ⟨rfl, rfl⟩
  | 3, _ => exact ⟨rfl, rfl⟩
  | 4, _ => exact ⟨rfl, rfl⟩
  | 5, _ => exact ⟨rfl, rfl⟩
  | 6, _ => exact ⟨rfl, rfl⟩
  | 7, _ => exact ⟨rfl, rfl⟩
  | 8, _ => exact ⟨rfl, rfl⟩
  | 9, _ => exact ⟨rfl, rfl⟩
  | 10, _ => exact ⟨rfl, rfl⟩
  | 11, _ => exact ⟨rfl, rfl⟩

set_option maxHeartbeats 1000000 in
theorem refW_any (r : Int) (w : World) :
    Calls Tryd.prog 30 #[.int .i64 r] w fun e w' => e = .returned (.int .i64 (runeW r)) ∧ Below w.heap.size w w' := by
  rw [← refW_eq]
  go_enter Tryd.func30, Tryd.ntmps30
  go_wp2
  obtain ⟨w1, hw1, hb1, hz⟩ := z_block w 66
  rw [hw1]
  have HB := Lib.hid hb1
  have HZ := Lib.hid hz
  clear hw1 hb1 hz
  go_loop [4] (ZRel r) (fun i => 10 - (intOf i).toNat)
  case atStart => exact ⟨0, 0, rfl, by omega, rfl, rfl⟩
  case round =>
    obtain ⟨m, k, hm, hk, rfl, hl⟩ := hrel
    have HM := Lib.hid hm
    have HL := Lib.hid hl
    by_cases hlt : k < 5
    · obtain ⟨c0, c1⟩ := HZ.out k hlt
      rw [← hm] at c0 c1
      have hm1 : m + 1 < 10 := by omega
      clear hm hl
      go_wp2
      · go_ret
        exact ⟨ret_int (ref_zero r (by rw [← HL.out, z_in k hlt r ⟨‹_›, ‹_›⟩])).symm, HB.out⟩
      · go_round
        case rel => exact ⟨m + 2, k + 1, by have := HM.out; omega, by omega, by go_num, by rw [← HL.out, z_on k hlt r (by omega)]⟩
        case measure => simp [intOf]; omega
      · go_round
        case rel => exact ⟨m + 2, k + 1, by have := HM.out; omega, by omega, by go_num, by rw [← HL.out, z_on k hlt r (by omega)]⟩
        case measure => simp [intOf]; omega
    · have hm1 : ¬ m < 10 := by omega
      clear hm hl
      have HZ0 : Hid (inP zerosL r = false) := Lib.hid (by
        have hk5 : k = 5 := by omega
        rw [← HL.out, hk5]; rfl)
      go_wp2_with (refine wpList_store_row rfl 67 _ _ rfl w1.heap.size #[.int .i64 4352, .int .i64 4447, .int .i64 11904, .int .i64 12350, .int .i64 12353, .int .i64 13311, .int .i64 13312, .int .i64 19903, .int .i64 19968, .int .i64 42191, .int .i64 44032, .int .i64 55203, .int .i64 63744, .int .i64 64255, .int .i64 65072, .int .i64 65135, .int .i64 65280, .int .i64 65376, .int .i64 65504, .int .i64 65510, .int .i64 127744, .int .i64 128591, .int .i64 131072, .int .i64 262141] rfl rfl 67 #[.int .i64 0, .int .i64 0, .int .i64 0, .int .i64 0, .int .i64 0, .int .i64 0, .int .i64 0, .int .i64 0, .int .i64 0, .int .i64 0, .int .i64 0, .int .i64 0, .int .i64 0, .int .i64 0, .int .i64 0, .int .i64 0, .int .i64 0, .int .i64 0, .int .i64 0, .int .i64 0, .int .i64 0, .int .i64 0, .int .i64 0, .int .i64 0] (heap_alloc_last w1 _) (by kernel_rfl) rfl (by kernel_rfl) ?_)
      rw [World.setRow_alloc_new]
      obtain ⟨w2, hw2, hb2, ht⟩ := t_block w1 67
      rw [hw2]
      have HB2 := Lib.hid (below_two HB.out hb2)
      have HT := Lib.hid ht
      clear hw2 hb2 ht
      go_wp2
      clear hm1 hlt
      go_loop [6] (TRel r) (fun i => 24 - (intOf i).toNat)
      case atStart => exact ⟨0, 0, rfl, by omega, rfl, rfl⟩
      case round =>
        obtain ⟨m2, k2, hm2, hk2, rfl, hl2⟩ := hrel
        have HM2 := Lib.hid hm2
        have HL2 := Lib.hid hl2
        by_cases hlt2 : k2 < 12
        · obtain ⟨c0, c1⟩ := HT.out k2 hlt2
          rw [← hm2] at c0 c1
          have hm3 : m2 + 1 < 24 := by omega
          clear hm2 hl2
          go_wp2
          · go_ret
            exact ⟨ret_int (ref_two r HZ0.out (by rw [← HL2.out, t_in k2 hlt2 r ⟨‹_›, ‹_›⟩])).symm, HB2.out⟩
          · go_round
            case rel => exact ⟨m2 + 2, k2 + 1, by have := HM2.out; omega, by omega, by go_num, by rw [← HL2.out, t_on k2 hlt2 r (by omega)]⟩
            case measure => simp [intOf]; omega
          · go_round
            case rel => exact ⟨m2 + 2, k2 + 1, by have := HM2.out; omega, by omega, by go_num, by rw [← HL2.out, t_on k2 hlt2 r (by omega)]⟩
            case measure => simp [intOf]; omega
        · have hm3 : ¬ m2 < 24 := by omega
          clear hm2 hl2
          go_wp2
          go_ret
          exact ⟨ret_int (ref_one r HZ0.out (by
            have hk12 : k2 = 12 := by omega
            rw [← HL2.out, hk12]; rfl)).symm, HB2.out⟩
end Go.Proofs.YtemnbleacjpfcaaDoor.W
