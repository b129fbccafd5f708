/-
  The law DigitsReads returns true for every text: what is read has just these digits, and no plain numeral is left unread. Conditions: none but the row's own.
-/
import Derived.Test.YtghbamknhiiieaaDoorRead
import Derived.Test.YtghbamknhiiieaaDoorRefDec
import Derived.Deep.DeepCutAuto
import Derived.Deep.CutRange
namespace Go.Proofs.YtghbamknhiiieaaDoor
open Go.RowKit

def plainStart (s : ByteArray) : Bool := if h : 0 < s.size then decide (s.size < 19) && (decide (49 ≤ (s[0]'h).toNat) && decide ((s[0]'h).toNat ≤ 57)) else false
def plainTo (s : ByteArray) (k : Nat) : Bool := plainStart s && (s.data.toList.take k).all (fun c => decide (48 ≤ c.toNat) && decide (c.toNat ≤ 57))

theorem plainTo_zero (s : ByteArray) : plainTo s 0 = plainStart s := by simp [plainTo]
theorem take_snocB (s : ByteArray) (k : Nat) (h : k < s.size) : s.data.toList.take (k + 1) = s.data.toList.take k ++ [s[k]] := by
  rw [List.take_succ_eq_append_getElem (by simpa using h)]; rfl
theorem plainTo_succ (s : ByteArray) (k : Nat) (h : k < s.size) : plainTo s (k + 1) = (plainTo s k && (decide (48 ≤ (s[k]).toNat) && decide ((s[k]).toNat ≤ 57))) := by
  unfold plainTo
  rw [take_snocB s k h, List.all_append]
  simp [Bool.and_assoc]

/-- A plain numeral is some number's digits. -/
theorem plain_number (s : ByteArray) (h : plainTo s s.size = true) : ∃ v : Int, -9223372036854775808 ≤ v ∧ v ≤ 9223372036854775807 ∧ Lib.itoa v = s.data.toList := by
  unfold plainTo at h
  rw [Bool.and_eq_true] at h
  obtain ⟨h1, h2⟩ := h
  unfold plainStart at h1
  split at h1
  · rename_i hz
    simp only [Bool.and_eq_true, decide_eq_true_eq] at h1
    rw [List.take_of_length_le (by simp), List.all_eq_true] at h2
    obtain ⟨a, b, c⟩ := h1
    have e : ∃ r, s.data.toList = s[0] :: r := by
      have t := take_snocB s 0 hz
      refine ⟨s.data.toList.drop 1, ?_⟩
      have := List.take_append_drop 1 s.data.toList
      rw [t] at this
      simpa using this.symm
    obtain ⟨r, e⟩ := e
    obtain ⟨v, hv, hi⟩ := parse_plain s[0] r b c (by
      rw [← e]; intro x hx
      have := h2 x hx
      simp only [Bool.and_eq_true, decide_eq_true_eq] at this
      exact this) (by rw [← e]; simpa using a)
    have hb := Lib.parseIntB_bounds hv
    exact ⟨v, by omega, by omega, by rw [e]; exact hi⟩
  · simp at h1

theorem start_int (s : ByteArray) (h : 0 < s.size) : plainStart s = (decide (s.size < 19) && (decide (49 ≤ (s[0]'h).toNat) && decide ((s[0]'h).toNat ≤ 57))) := by
  unfold plainStart; rw [dif_pos h]

set_option maxHeartbeats 1000000 in
theorem reads_walk (s : ByteArray) (w : World) (hz : s.size ≤ 9223372036854775807) (ht : Tab w) (he : Errs w) :
    Calls Tryd.prog 4 #[.string s] w fun e w' => e = .returned (.bool true) ∧ Below w.heap.size w w' := by
  have HT := Lib.hid ht
  have HE := Lib.hid he
  clear ht he
  go_enter Tryd.func4, Tryd.ntmps4
  go_wp2_with fail
  refine (awake_any _ HT.out).mono ?_
  rintro e w1 ⟨rfl, hb⟩
  have HB := Lib.hid hb
  clear hb
  by_cases hl : 40 < s.size
  · go_wp2_with fail
    refine (awake_any _ (HT.out.keep HB.out)).mono ?_
    rintro e w2 ⟨rfl, hb⟩
    have HB2 := Lib.hid (below_two HB.out hb)
    clear hb
    go_wp2_with fail
    go_ret
    exact ⟨rfl, HB2.out⟩
  · go_wp2_with fail
    refine (read_any s _ (by omega) (HT.out.keep HB.out) (HE.out.keep HB.out)).mono ?_
    rintro e w2 (⟨v, hv, v1, v2, rfl, hb⟩ | ⟨hn, rfl, hb⟩)
    · have HB2 := Lib.hid (below_two HB.out hb)
      clear hb
      go_wp2_with fail
      refine (refDec_any v _ v1 v2).mono ?_
      rintro e w3 ⟨rfl, k, rfl⟩
      have hs' : (⟨(Lib.itoa v).toArray⟩ : ByteArray) = s := by rw [hv.out]
      rw [hs']
      clear hs'
      go_wp2_with fail
      go_ret
      exact ⟨rfl, below_drewN HB2.out _⟩
    · have HB2 := Lib.hid (below_two HB.out hb)
      have NO := Lib.hid (show plainTo s s.size = false by
        cases hp : plainTo s s.size with
        | false => rfl
        | true => obtain ⟨v, a, b, c⟩ := plain_number s hp
                  exact absurd c (hn.out v a b))
      clear hb hn
      go_upto_region 5 with fail
      go_cut [5] from 22 to 39 (fun p wx => p = .bool (plainStart s) ∧ w2 = wx)
      case first =>
        by_cases c0 : 0 < s.size
        · have E := Lib.hid (start_int s c0)
          by_cases c1 : s.size < 19
          · by_cases c2 : 49 ≤ (s[0]'c0).toNat
            · by_cases c3 : (s[0]'c0).toNat ≤ 57
              · go_wp2_with fail
                go_meet
                exact ⟨by rw [E.out]; simp [c1, c2, c3]; omega, rfl⟩
              · go_wp2_with fail
                go_meet
                exact ⟨by rw [E.out]; simp [c3]; omega, rfl⟩
            · go_wp2_with fail
              go_meet
              exact ⟨by rw [E.out]; simp [c2], rfl⟩
          · go_wp2_with fail
            go_meet
            exact ⟨by rw [E.out]; simp [c1], rfl⟩
        · go_wp2_with fail
          go_meet
          exact ⟨by rw [plainStart, dif_neg c0], rfl⟩
      case rest =>
        obtain ⟨rfl, rfl⟩ := hcut
        go_wp2_with fail
        go_loop [5, 6] (fun p i => ∃ k : Nat, k ≤ s.size ∧ i = .int .i64 k ∧ p = .bool (plainTo s k)) (fun _ i => s.size - (intOf i).toNat)
        case atStart => exact ⟨0, Nat.zero_le _, rfl, by rw [plainTo_zero]⟩
        case round =>
          obtain ⟨k, hk, rfl, rfl⟩ := hrel
          by_cases hlt : k < s.size
          · have SU := Lib.hid (plainTo_succ s k hlt)
            cases hp : plainTo s k with
            | false =>
              rw [hp] at SU
              clear hp
              go_wp2
              go_round
              case rel => exact ⟨k + 1, by omega, by go_num, by rw [SU.out]; rfl⟩
              case measure => simp [intOf]; omega
            | true =>
              rw [hp] at SU
              clear hp
              by_cases c1 : 48 ≤ (s[k]).toNat
              · by_cases c2 : (s[k]).toNat ≤ 57
                · go_wp2
                  go_round
                  case rel => exact ⟨k + 1, by omega, by go_num, by rw [SU.out]; simp [c1, c2]; omega⟩
                  case measure => simp [intOf]; omega
                · go_wp2
                  go_round
                  case rel => exact ⟨k + 1, by omega, by go_num, by rw [SU.out]; simp [c2]; omega⟩
                  case measure => simp [intOf]; omega
              · go_wp2
                go_round
                case rel => exact ⟨k + 1, by omega, by go_num, by rw [SU.out]; simp [c1]⟩
                case measure => simp [intOf]; omega
          · obtain rfl : k = s.size := by omega
            rw [NO.out]
            go_wp2
            go_ret
            exact ⟨rfl, HB2.out⟩
end Go.Proofs.YtghbamknhiiieaaDoor
