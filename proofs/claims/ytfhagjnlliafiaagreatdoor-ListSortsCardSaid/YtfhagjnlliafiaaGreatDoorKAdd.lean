/-
  What the quotients, the cut sums and their references return.
  Conditions: each fact's own.
-/
import Derived.Test.YtfhagjnlliafiaaGreatDoorRows
import Derived.WalkKit
import Derived.WalkSpells
import Derived.WalkLawsBesides
import Derived.Lib.Hide
import Derived.OpenShut
set_option maxHeartbeats 1000000
namespace Go.Proofs.YtfhagjnlliafiaaGreatDoor.N
open Go.RowKit
theorem ret_int {k : IntKind} {a b : Int} (h : a = b) : Ending.returned (.int k a) = .returned (.int k b) := by rw [h]
def ceilZ (n d : Int) : Int := if n < 1 ∨ d < 1 then 0 else (n - 1) / d + 1
theorem ceil_any (n d : Int) (w : World) (h1 : -9223372036854775808 ≤ n) (h2 : n ≤ 9223372036854775807) (h3 : -9223372036854775808 ≤ d) (h4 : d ≤ 9223372036854775807) :
    Calls Tryz.prog 48 #[.int .i64 n, .int .i64 d] w fun e w' => e = .returned (.int .i64 (ceilZ n d)) ∧ w = w' := by
  by_cases hn : n < 1
  · go_enter Tryz.func48, Tryz.ntmps48
    go_wp2
    go_ret
    exact ⟨by simp [ceilZ, hn], rfl⟩
  · by_cases hd : d < 1
    · go_enter Tryz.func48, Tryz.ntmps48
      go_wp2
      go_ret
      exact ⟨by simp [ceilZ, hd], rfl⟩
    · have hq : (n - 1) / d ≤ n - 1 := Int.ediv_le_self _ (by omega)
      have hq0 : 0 ≤ (n - 1) / d := Int.ediv_nonneg (by omega) (by omega)
      go_enter Tryz.func48, Tryz.ntmps48
      go_wp2
      go_ret
      exact ⟨ret_int (by rw [ceilZ, if_neg (by omega)]), rfl⟩
theorem ceil_alt (n d : Int) (hn : 1 ≤ n) (hd : 1 ≤ d) : ceilZ n d = if 0 < n % d then n / d + 1 else n / d := by
  have e := Int.emod_add_mul_ediv n d
  have m0 := Int.emod_nonneg n (show d ≠ 0 by omega)
  have m1 := Int.emod_lt_of_pos n (show 0 < d by omega)
  rw [ceilZ, if_neg (by omega)]
  by_cases h : 0 < n % d
  · rw [if_pos h]
    have : (n - 1) / d = n / d := by
      refine (Int.ediv_emod_unique (r := n % d - 1) (show 0 < d by omega)).2 ⟨?_, ?_, ?_⟩ |>.1
      · omega
      · omega
      · omega
    omega
  · rw [if_neg h]
    have : (n - 1) / d = n / d - 1 := by
      refine (Int.ediv_emod_unique (r := d - 1) (show 0 < d by omega)).2 ⟨?_, ?_, ?_⟩ |>.1
      · rw [Int.mul_sub]; omega
      · omega
      · omega
    omega
theorem refCeil_any (n d : Int) (w : World) (h1 : -9223372036854775808 ≤ n) (h2 : n ≤ 9223372036854775807) (h3 : -9223372036854775808 ≤ d) (h4 : d ≤ 9223372036854775807) :
    Calls Tryz.prog 27 #[.int .i64 n, .int .i64 d] w fun e w' => e = .returned (.int .i64 (ceilZ n d)) ∧ w = w' := by
  by_cases hn : n < 1
  · go_enter Tryz.func27, Tryz.ntmps27
    go_wp2
    go_ret
    exact ⟨by simp [ceilZ, hn], rfl⟩
  · by_cases hd : d < 1
    · go_enter Tryz.func27, Tryz.ntmps27
      go_wp2
      go_ret
      exact ⟨by simp [ceilZ, hd], rfl⟩
    · have hq : n / d ≤ n := Int.ediv_le_self _ (by omega)
      have hq0 : 0 ≤ n / d := Int.ediv_nonneg (by omega) (by omega)
      have ha := ceil_alt n d (by omega) (by omega)
      have HA := Lib.hid ha
      clear ha
      by_cases hm : 0 < n % d
      · have hlt : n / d < n := by
          by_cases h : d = 1
          · subst h; simp at hm
          · exact Int.ediv_lt_self_of_pos_of_ne_one (by omega) (by omega)
        go_enter Tryz.func27, Tryz.ntmps27
        go_wp2
        go_ret
        exact ⟨ret_int (by rw [HA.out, if_pos hm]), rfl⟩
      · go_enter Tryz.func27, Tryz.ntmps27
        go_wp2
        go_ret
        exact ⟨ret_int (by rw [HA.out, if_neg (by omega)]), rfl⟩
def cutZ (n : Int) : Int := if 9223372036854775807 < n then 9223372036854775807 else if n < -9223372036854775808 then -9223372036854775808 else n
theorem cutZ_bd (n : Int) : -9223372036854775808 ≤ cutZ n ∧ cutZ n ≤ 9223372036854775807 := by
  unfold cutZ; split <;> (try split) <;> omega
theorem addTwo_any (a b : Int) (w : World) (h1 : -9223372036854775808 ≤ a) (h2 : a ≤ 9223372036854775807) (h3 : -9223372036854775808 ≤ b) (h4 : b ≤ 9223372036854775807) :
    Calls Tryz.prog 47 #[.int .i64 a, .int .i64 b] w fun e w' => e = .returned (.int .i64 (cutZ (a + b))) ∧ w = w' := by
  by_cases c1 : 0 < b
  · by_cases c2 : 9223372036854775807 - b < a
    · go_enter Tryz.func47, Tryz.ntmps47
      go_wp2
      go_ret
      exact ⟨ret_int (by rw [cutZ, if_pos (by omega)]), rfl⟩
    · go_enter Tryz.func47, Tryz.ntmps47
      go_wp2
      go_ret
      exact ⟨ret_int (by rw [cutZ, if_neg (by omega), if_neg (by omega)]), rfl⟩
  · by_cases c2 : b < 0
    · by_cases c3 : a < -9223372036854775808 - b
      · go_enter Tryz.func47, Tryz.ntmps47
        go_wp2
        go_ret
        exact ⟨ret_int (by rw [cutZ, if_neg (by omega), if_pos (by omega)]), rfl⟩
      · go_enter Tryz.func47, Tryz.ntmps47
        go_wp2
        go_ret
        exact ⟨ret_int (by rw [cutZ, if_neg (by omega), if_neg (by omega)]), rfl⟩
    · go_enter Tryz.func47, Tryz.ntmps47
      go_wp2
      go_ret
      exact ⟨ret_int (by rw [cutZ, if_neg (by omega), if_neg (by omega)]), rfl⟩
end Go.Proofs.YtfhagjnlliafiaaGreatDoor.N
namespace Go.Proofs.YtfhagjnlliafiaaGreatDoor.N
open Go.RowKit
def addAll (l : List Int) : Int := l.foldl (fun s x => cutZ (s + x)) 0
theorem addAll_snoc (l : List Int) (x : Int) : addAll (l ++ [x]) = cutZ (addAll l + x) := by simp [addAll]
theorem addAll_bd (l : List Int) : -9223372036854775808 ≤ addAll l ∧ addAll l ≤ 9223372036854775807 := by
  rcases List.eq_nil_or_concat l with rfl | ⟨l', x, rfl⟩
  · simp [addAll]
  · rw [List.concat_eq_append, addAll_snoc]; exact cutZ_bd _
theorem take_getD (zs : List Int) (k : Nat) (h : k < zs.length) : zs.take (k + 1) = zs.take k ++ [zs.getD k 0] := by
  rw [List.take_succ_eq_append_getElem h]
  simp [List.getD_eq_getElem?_getD, h]
theorem add_some (b off len cap : Nat) (zs : List Int) (w : World) (hl : len ≤ zs.length) (hm : zs.length ≤ 9223372036854775807)
    (hcell : ∀ i, i < zs.length → w.cell? ⟨b, off + i, none⟩ = some (.int .i64 (zs.getD i 0))) (hbd : ∀ i, -9223372036854775808 ≤ zs.getD i 0 ∧ zs.getD i 0 ≤ 9223372036854775807) :
    Calls Tryz.prog 25 #[.slice (some ⟨b, off, none⟩) len cap] w fun e w' => e = .returned (.int .i64 (addAll (zs.take len))) ∧ w = w' := by
  have HC := Lib.hid hcell
  have HB := Lib.hid hbd
  clear hcell hbd
  go_enter Tryz.func25, Tryz.ntmps25
  go_wp2
  go_loop [3, 8] (fun s i => ∃ k : Nat, k ≤ len ∧ i = .int .i64 k ∧ s = .int .i64 (addAll (zs.take k))) (fun _ i => len - (intOf i).toNat)
  case atStart => exact ⟨0, Nat.zero_le _, rfl, rfl⟩
  case round =>
    obtain ⟨k, hk, rfl, rfl⟩ := hrel
    by_cases hlt : k < len
    · have hc := HC.out k (by omega)
      have hb := HB.out k
      have ha := addAll_bd (zs.take k)
      have hs : addAll (zs.take (k + 1)) = cutZ (addAll (zs.take k) + zs.getD k 0) := by rw [take_getD zs k (by omega), addAll_snoc]
      have HS := Lib.hid hs
      clear hs
      generalize zs.getD k 0 = z at *
      generalize addAll (zs.take k) = s at *
      go_wp2_with (go_at_call 47; refine (addTwo_any _ _ _ (by omega) (by omega) (by omega) (by omega)).mono ?_; rintro e w' ⟨rfl, rfl⟩)
      go_round
      case rel => exact ⟨k + 1, by omega, by go_num, by rw [HS.out]⟩
      case measure => simp [intOf]; omega
    · obtain rfl : k = len := by omega
      go_wp2
      go_ret
      exact ⟨rfl, rfl⟩
theorem refAdd_none (cap : Nat) (a : Option Addr) (w : World) :
    Calls Tryz.prog 28 #[.slice a 0 cap] w fun e w' => e = .returned (.int .i64 0) ∧ w = w' := by
  go_enter Tryz.func28, Tryz.ntmps28
  go_wp2
  refine wp_loop_rounds 1 ?_; rw [rounds_succ]
  go_wp2
  go_ret
  exact ⟨rfl, rfl⟩
theorem refAdd_some (b off len cap : Nat) (zs : List Int) (w : World) (hl : len ≤ zs.length) (hm : zs.length ≤ 9223372036854775807)
    (hcell : ∀ i, i < zs.length → w.cell? ⟨b, off + i, none⟩ = some (.int .i64 (zs.getD i 0))) (hbd : ∀ i, -9223372036854775808 ≤ zs.getD i 0 ∧ zs.getD i 0 ≤ 9223372036854775807) :
    Calls Tryz.prog 28 #[.slice (some ⟨b, off, none⟩) len cap] w fun e w' => e = .returned (.int .i64 (addAll (zs.take len))) ∧ w = w' := by
  have HC := Lib.hid hcell
  have HB := Lib.hid hbd
  clear hcell hbd
  go_enter Tryz.func28, Tryz.ntmps28
  go_wp2
  go_loop [3, 4] (fun s i => ∃ k : Nat, k ≤ len ∧ i = .int .i64 k ∧ s = .int .i64 (addAll (zs.take k))) (fun _ i => len - (intOf i).toNat)
  case atStart => exact ⟨0, Nat.zero_le _, rfl, rfl⟩
  case round =>
    obtain ⟨k, hk, rfl, rfl⟩ := hrel
    by_cases hlt : k < len
    · have hc := HC.out k (by omega)
      have hb := HB.out k
      have ha := addAll_bd (zs.take k)
      have hs : addAll (zs.take (k + 1)) = cutZ (addAll (zs.take k) + zs.getD k 0) := by rw [take_getD zs k (by omega), addAll_snoc]
      have HS := Lib.hid hs
      clear hs
      generalize zs.getD k 0 = z at *
      generalize addAll (zs.take k) = s at *
      by_cases c1 : 0 < z
      · by_cases c2 : 9223372036854775807 - z < s
        all_goals
          go_wp2
          go_round
          case rel => exact ⟨k + 1, by omega, by go_num, by rw [HS.out, cutZ]; first | rw [if_pos (by omega)] | rw [if_neg (by omega), if_neg (by omega)]⟩
          case measure => simp [intOf]; omega
      · by_cases c2 : z < 0
        · by_cases c3 : s < -9223372036854775808 - z
          all_goals
            go_wp2
            go_round
            case rel => exact ⟨k + 1, by omega, by go_num, by rw [HS.out, cutZ]; first | rw [if_neg (by omega), if_pos (by omega)] | rw [if_neg (by omega), if_neg (by omega)]⟩
            case measure => simp [intOf]; omega
        · go_wp2
          go_round
          case rel => exact ⟨k + 1, by omega, by go_num, by rw [HS.out, cutZ, if_neg (by omega), if_neg (by omega)]⟩
          case measure => simp [intOf]; omega
    · obtain rfl : k = len := by omega
      go_wp2
      go_ret
      exact ⟨rfl, rfl⟩
end Go.Proofs.YtfhagjnlliafiaaGreatDoor.N
