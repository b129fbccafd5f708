/-
  What the quotients, the cut sums and their references return: contracts of digits.Ceil, digits.addTwo, digits.Add and of the reference's Ceil and Add. Conditions: the arguments are int64s.
  What digits.Add and the reference's Add return for a list of int64s: the sum, cut at each step. Conditions: the slice reads as a row of int64s.
-/
import Derived.Test.YtpikndeefiediaaGreatDoorRows
import Derived.WalkKit
import Derived.WalkSpells
import Derived.WalkLawsBesides
import Derived.Lib.Hide
import Derived.OpenShut
namespace Go.Proofs.YtpikndeefiediaaGreatDoor.N
open Go.RowKit

theorem ret_int {k : IntKind} {a b : Int} (h : a = b) : Ending.returned (.int k a) = .returned (.int k b) := by rw [h]

def ceilZ (n d : Int) : Int := if n < 1 ∨ d < 1 then 0 else (n - 1) / d + 1

set_option maxHeartbeats 400000 in
theorem ceil_any (n d : Int) (w : World) (h1 : -9223372036854775808 ≤ n) (h2 : n ≤ 9223372036854775807) (h3 : -9223372036854775808 ≤ d) (h4 : d ≤ 9223372036854775807) :
    Calls Tryz.prog 22 #[.int .i64 n, .int .i64 d] w fun e w' => e = .returned (.int .i64 (ceilZ n d)) ∧ w = w' := by
  by_cases hn : n < 1
  · go_enter Tryz.func22, Tryz.ntmps22
    go_wp2
    go_ret
    exact ⟨by simp [ceilZ, hn], rfl⟩
  · by_cases hd : d < 1
    · go_enter Tryz.func22, Tryz.ntmps22
      go_wp2
      go_ret
      exact ⟨by simp [ceilZ, hd], rfl⟩
    · have hq : (n - 1) / d ≤ n - 1 := Int.ediv_le_self _ (by omega)
      have hq0 : 0 ≤ (n - 1) / d := Int.ediv_nonneg (by omega) (by omega)
      go_enter Tryz.func22, Tryz.ntmps22
      go_wp2
      go_ret
      exact ⟨ret_int (by rw [ceilZ, if_neg (by omega)]), rfl⟩

def cutZ (n : Int) : Int := if 9223372036854775807 < n then 9223372036854775807 else if n < -9223372036854775808 then -9223372036854775808 else n

theorem cutZ_bd (n : Int) : -9223372036854775808 ≤ cutZ n ∧ cutZ n ≤ 9223372036854775807 := by
  unfold cutZ; split <;> (try split) <;> omega

set_option maxHeartbeats 400000 in
theorem addTwo_any (a b : Int) (w : World) (h1 : -9223372036854775808 ≤ a) (h2 : a ≤ 9223372036854775807) (h3 : -9223372036854775808 ≤ b) (h4 : b ≤ 9223372036854775807) :
    Calls Tryz.prog 67 #[.int .i64 a, .int .i64 b] w fun e w' => e = .returned (.int .i64 (cutZ (a + b))) ∧ w = w' := by
  by_cases c1 : 0 < b
  · by_cases c2 : 9223372036854775807 - b < a
    · go_enter Tryz.func67, Tryz.ntmps67
      go_wp2
      go_ret
      exact ⟨ret_int (by rw [cutZ, if_pos (by omega)]), rfl⟩
    · go_enter Tryz.func67, Tryz.ntmps67
      go_wp2
      go_ret
      exact ⟨ret_int (by rw [cutZ, if_neg (by omega), if_neg (by omega)]), rfl⟩
  · by_cases c2 : b < 0
    · by_cases c3 : a < -9223372036854775808 - b
      · go_enter Tryz.func67, Tryz.ntmps67
        go_wp2
        go_ret
        exact ⟨ret_int (by rw [cutZ, if_neg (by omega), if_pos (by omega)]), rfl⟩
      · go_enter Tryz.func67, Tryz.ntmps67
        go_wp2
        go_ret
        exact ⟨ret_int (by rw [cutZ, if_neg (by omega), if_neg (by omega)]), rfl⟩
    · go_enter Tryz.func67, Tryz.ntmps67
      go_wp2
      go_ret
      exact ⟨ret_int (by rw [cutZ, if_neg (by omega), if_neg (by omega)]), rfl⟩
end Go.Proofs.YtpikndeefiediaaGreatDoor.N

namespace Go.Proofs.YtpikndeefiediaaGreatDoor.N
open Go.RowKit

def addAll (l : List Int) : Int := l.foldl (fun s x => cutZ (s + x)) 0

theorem addAll_snoc (l : List Int) (x : Int) : addAll (l ++ [x]) = cutZ (addAll l + x) := by simp [addAll]

theorem addAll_bd (l : List Int) : -9223372036854775808 ≤ addAll l ∧ addAll l ≤ 9223372036854775807 := by
  rcases List.eq_nil_or_concat l with rfl | ⟨l', x, rfl⟩
  · simp [addAll]
  · rw [List.concat_eq_append, addAll_snoc]; exact cutZ_bd _

theorem take_getD (zs : List Int) (k : Nat) (h : k < zs.length) : zs.take (k + 1) = zs.take k ++ [zs.getD k 0] := by
  rw [List.take_succ_eq_append_getElem h]
  simp [List.getD_eq_getElem?_getD, h]

set_option maxHeartbeats 400000 in
theorem add_some (b off len cap : Nat) (zs : List Int) (w : World) (hl : len ≤ zs.length) (hm : zs.length ≤ 9223372036854775807)
    (hcell : ∀ i, i < zs.length → w.cell? ⟨b, off + i, none⟩ = some (.int .i64 (zs.getD i 0))) (hbd : ∀ i, -9223372036854775808 ≤ zs.getD i 0 ∧ zs.getD i 0 ≤ 9223372036854775807) :
    Calls Tryz.prog 55 #[.slice (some ⟨b, off, none⟩) len cap] w fun e w' => e = .returned (.int .i64 (addAll (zs.take len))) ∧ w = w' := by
  have HC := Lib.hid hcell
  have HB := Lib.hid hbd
  clear hcell hbd
  go_enter Tryz.func55, Tryz.ntmps55
  go_wp2
  go_loop [3, 8] (fun s i => ∃ k : Nat, k ≤ len ∧ i = .int .i64 k ∧ s = .int .i64 (addAll (zs.take k))) (fun _ i => len - (intOf i).toNat)
  case atStart => exact ⟨0, Nat.zero_le _, rfl, rfl⟩
  case round =>
    obtain ⟨k, hk, rfl, rfl⟩ := hrel
    by_cases hlt : k < len
    · have hc := HC.out k (by omega)
      have hb := HB.out k
      have ha := addAll_bd (zs.take k)
      have hs : addAll (zs.take (k + 1)) = cutZ (addAll (zs.take k) + zs.getD k 0) := by rw [take_getD zs k (by omega), addAll_snoc]
      have HS := Lib.hid hs
      clear hs
      generalize zs.getD k 0 = z at *
      generalize addAll (zs.take k) = s at *
      go_wp2_with (go_at_call 67; refine (addTwo_any _ _ _ (by omega) (by omega) (by omega) (by omega)).mono ?_; rintro e w' ⟨rfl, rfl⟩)
      go_round
      case rel => exact ⟨k + 1, by omega, by go_num, by rw [HS.out]⟩
      case measure => simp [intOf]; omega
    · obtain rfl : k = len := by omega
      go_wp2
      go_ret
      exact ⟨rfl, rfl⟩



end Go.Proofs.YtpikndeefiediaaGreatDoor.N
