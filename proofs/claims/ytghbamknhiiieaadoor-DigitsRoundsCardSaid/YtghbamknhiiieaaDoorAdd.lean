/-
  What digits.Add and the reference's Add return for a list of int64s: the sum, cut at each step. Conditions: the slice reads as a row of int64s.
-/
import Derived.Test.YtghbamknhiiieaaDoorCeil
import Derived.OpenShut
namespace Go.Proofs.YtghbamknhiiieaaDoor
open Go.RowKit

/-- What a walk is told of a slice of integers that came in: nil, or a row of cap cells that hold zs. -/
def IsRow (k : IntKind) (w : World) (a : Option Addr) (len cap : Nat) (zs : List Int) : Prop :=
  (a = none ∧ len = 0 ∧ cap = 0 ∧ zs = []) ∨
  ∃ x, a = some x ∧ len ≤ cap ∧ cap ≤ maxLen ∧ zs.length = cap ∧ (∀ i, i < zs.length → w.cell? (x.add i) = some (.int k (zs.getD i 0))) ∧ ∀ n ∈ zs, (Lit.int k n).wf = true

def addAll (l : List Int) : Int := l.foldl (fun s x => cutZ (s + x)) 0

theorem addAll_snoc (l : List Int) (x : Int) : addAll (l ++ [x]) = cutZ (addAll l + x) := by simp [addAll]

theorem addAll_bd (l : List Int) : -9223372036854775808 ≤ addAll l ∧ addAll l ≤ 9223372036854775807 := by
  rcases List.eq_nil_or_concat l with rfl | ⟨l', x, rfl⟩
  · simp [addAll]
  · rw [List.concat_eq_append, addAll_snoc]; exact cutZ_bd _

theorem take_getD (zs : List Int) (k : Nat) (h : k < zs.length) : zs.take (k + 1) = zs.take k ++ [zs.getD k 0] := by
  rw [List.take_succ_eq_append_getElem h]
  simp [List.getD_eq_getElem?_getD, h]

set_option maxHeartbeats 400000 in
theorem add_none (cap : Nat) (a : Option Addr) (w : World) :
    Calls Tryd.prog 20 #[.slice a 0 cap] w fun e w' => e = .returned (.int .i64 0) ∧ w = w' := by
  go_enter Tryd.func20, Tryd.ntmps20
  go_wp2
  refine wp_loop_rounds 1 ?_; rw [rounds_succ]
  go_wp2
  go_ret
  exact ⟨rfl, rfl⟩

set_option maxHeartbeats 400000 in
theorem add_some (b off len cap : Nat) (zs : List Int) (w : World) (hl : len ≤ zs.length) (hm : zs.length ≤ 9223372036854775807)
    (hcell : ∀ i, i < zs.length → w.cell? ⟨b, off + i, none⟩ = some (.int .i64 (zs.getD i 0))) (hbd : ∀ i, -9223372036854775808 ≤ zs.getD i 0 ∧ zs.getD i 0 ≤ 9223372036854775807) :
    Calls Tryd.prog 20 #[.slice (some ⟨b, off, none⟩) len cap] w fun e w' => e = .returned (.int .i64 (addAll (zs.take len))) ∧ w = w' := by
  have HC := Lib.hid hcell
  have HB := Lib.hid hbd
  clear hcell hbd
  go_enter Tryd.func20, Tryd.ntmps20
  go_wp2
  go_loop [3, 8] (fun s i => ∃ k : Nat, k ≤ len ∧ i = .int .i64 k ∧ s = .int .i64 (addAll (zs.take k))) (fun _ i => len - (intOf i).toNat)
  case atStart => exact ⟨0, Nat.zero_le _, rfl, rfl⟩
  case round =>
    obtain ⟨k, hk, rfl, rfl⟩ := hrel
    by_cases hlt : k < len
    · have hc := HC.out k (by omega)
      have hb := HB.out k
      have ha := addAll_bd (zs.take k)
      have hs : addAll (zs.take (k + 1)) = cutZ (addAll (zs.take k) + zs.getD k 0) := by rw [take_getD zs k (by omega), addAll_snoc]
      have HS := Lib.hid hs
      clear hs
      generalize zs.getD k 0 = z at *
      generalize addAll (zs.take k) = s at *
      go_wp2_with (go_at_call 29; refine (addTwo_any _ _ _ (by omega) (by omega) (by omega) (by omega)).mono ?_; rintro e w' ⟨rfl, rfl⟩)
      go_round
      case rel => exact ⟨k + 1, by omega, by go_num, by rw [HS.out]⟩
      case measure => simp [intOf]; omega
    · obtain rfl : k = len := by omega
      go_wp2
      go_ret
      exact ⟨rfl, rfl⟩

set_option maxHeartbeats 400000 in
theorem refAdd_none (cap : Nat) (a : Option Addr) (w : World) :
    Calls Tryd.prog 21 #[.slice a 0 cap] w fun e w' => e = .returned (.int .i64 0) ∧ w = w' := by
  go_enter Tryd.func21, Tryd.ntmps21
  go_wp2
  refine wp_loop_rounds 1 ?_; rw [rounds_succ]
  go_wp2
  go_ret
  exact ⟨rfl, rfl⟩

set_option maxHeartbeats 1000000 in
theorem refAdd_some (b off len cap : Nat) (zs : List Int) (w : World) (hl : len ≤ zs.length) (hm : zs.length ≤ 9223372036854775807)
    (hcell : ∀ i, i < zs.length → w.cell? ⟨b, off + i, none⟩ = some (.int .i64 (zs.getD i 0))) (hbd : ∀ i, -9223372036854775808 ≤ zs.getD i 0 ∧ zs.getD i 0 ≤ 9223372036854775807) :
    Calls Tryd.prog 21 #[.slice (some ⟨b, off, none⟩) len cap] w fun e w' => e = .returned (.int .i64 (addAll (zs.take len))) ∧ w = w' := by
  have HC := Lib.hid hcell
  have HB := Lib.hid hbd
  clear hcell hbd
  go_enter Tryd.func21, Tryd.ntmps21
  go_wp2
  go_loop [3, 4] (fun s i => ∃ k : Nat, k ≤ len ∧ i = .int .i64 k ∧ s = .int .i64 (addAll (zs.take k))) (fun _ i => len - (intOf i).toNat)
  case atStart => exact ⟨0, Nat.zero_le _, rfl, rfl⟩
  case round =>
    obtain ⟨k, hk, rfl, rfl⟩ := hrel
    by_cases hlt : k < len
    · have hc := HC.out k (by omega)
      have hb := HB.out k
      have ha := addAll_bd (zs.take k)
      have hs : addAll (zs.take (k + 1)) = cutZ (addAll (zs.take k) + zs.getD k 0) := by rw [take_getD zs k (by omega), addAll_snoc]
      have HS := Lib.hid hs
      clear hs
      generalize zs.getD k 0 = z at *
      generalize addAll (zs.take k) = s at *
      by_cases c1 : 0 < z
      · by_cases c2 : 9223372036854775807 - z < s
        all_goals
          go_wp2
          go_round
          case rel => exact ⟨k + 1, by omega, by go_num, by rw [HS.out, cutZ]; first | rw [if_pos (by omega)] | rw [if_neg (by omega), if_neg (by omega)]⟩
          case measure => simp [intOf]; omega
      · by_cases c2 : z < 0
        · by_cases c3 : s < -9223372036854775808 - z
          all_goals
            go_wp2
            go_round
            case rel => exact ⟨k + 1, by omega, by go_num, by rw [HS.out, cutZ]; first | rw [if_neg (by omega), if_pos (by omega)] | rw [if_neg (by omega), if_neg (by omega)]⟩
            case measure => simp [intOf]; omega
        · go_wp2
          go_round
          case rel => exact ⟨k + 1, by omega, by go_num, by rw [HS.out, cutZ, if_neg (by omega), if_neg (by omega)]⟩
          case measure => simp [intOf]; omega
    · obtain rfl : k = len := by omega
      go_wp2
      go_ret
      exact ⟨rfl, rfl⟩

theorem wf_bd {n : Int} (h : (Lit.int .i64 n).wf = true) : -9223372036854775808 ≤ n ∧ n ≤ 9223372036854775807 := bounds_i64 h

theorem getD_bd {zs : List Int} (h : ∀ n ∈ zs, (Lit.int .i64 n).wf = true) (i : Nat) : -9223372036854775808 ≤ zs.getD i 0 ∧ zs.getD i 0 ≤ 9223372036854775807 := by
  by_cases hi : i < zs.length
  · have := wf_bd (h _ (List.getElem_mem hi))
    simpa [List.getD_eq_getElem?_getD, hi] using this
  · simp [List.getD_eq_getElem?_getD, List.getElem?_eq_none (Nat.le_of_not_lt hi)]

theorem add_row (a : Option Addr) (len cap : Nat) (zs : List Int) (w : World) (hr : IsRow .i64 w a len cap zs) :
    Calls Tryd.prog 20 #[.slice a len cap] w fun e w' => e = .returned (.int .i64 (addAll (zs.take len))) ∧ w = w' := by
  rcases hr with ⟨rfl, rfl, rfl, rfl⟩ | ⟨x, rfl, hl, hm, hz, hc, hw⟩
  · exact add_none 0 none w
  · by_cases h0 : len = 0
    · subst h0; exact add_none cap (some x) w
    · unfold maxLen at hm
      obtain ⟨b, off, rfl, hc'⟩ := ints_at hc (by omega)
      exact add_some b off len cap zs w (by omega) (by omega) hc' (getD_bd hw)

theorem refAdd_row (a : Option Addr) (len cap : Nat) (zs : List Int) (w : World) (hr : IsRow .i64 w a len cap zs) :
    Calls Tryd.prog 21 #[.slice a len cap] w fun e w' => e = .returned (.int .i64 (addAll (zs.take len))) ∧ w = w' := by
  rcases hr with ⟨rfl, rfl, rfl, rfl⟩ | ⟨x, rfl, hl, hm, hz, hc, hw⟩
  · exact refAdd_none 0 none w
  · by_cases h0 : len = 0
    · subst h0; exact refAdd_none cap (some x) w
    · unfold maxLen at hm
      obtain ⟨b, off, rfl, hc'⟩ := ints_at hc (by omega)
      exact refAdd_some b off len cap zs w (by omega) (by omega) hc' (getD_bd hw)
end Go.Proofs.YtghbamknhiiieaaDoor
