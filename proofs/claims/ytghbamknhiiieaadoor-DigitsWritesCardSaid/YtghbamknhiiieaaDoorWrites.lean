/-
  The law DigitsWrites returns true for every number: the digits are the reference's, and the number is read from them. Conditions: none but the row's own.
-/
import Derived.Test.YtghbamknhiiieaaDoorRead
import Derived.Test.YtghbamknhiiieaaDoorFormat
import Derived.Lib.ItoaLen
namespace Go.Proofs.YtghbamknhiiieaaDoor
open Go.RowKit

theorem itoa_inj {u v : Int} (h1 : -9223372036854775808 ≤ u) (h2 : u ≤ 9223372036854775807) (h3 : -9223372036854775808 ≤ v) (h4 : v ≤ 9223372036854775807) (h : Lib.itoa u = Lib.itoa v) : u = v := by
  have a := parse_itoa u h1 h2
  rw [h, parse_itoa v h3 h4] at a
  injection a with a
  exact a.symm

set_option maxHeartbeats 1000000 in
theorem writes_walk (n m : Int) (w : World) (h1 : -9223372036854775808 ≤ n) (h2 : n ≤ 9223372036854775807) (h3 : 0 ≤ m) (h4 : m ≤ 18446744073709551615) (ht : Tab w) (he : Errs w) (hz : TzTab w) :
    Calls Tryd.prog 3 #[.int .i64 n, .int .u64 m] w fun e w' => e = .returned (.bool true) ∧ Below w.heap.size w w' := by
  have HT := Lib.hid ht
  have HE := Lib.hid he
  have HZ := Lib.hid hz
  clear ht he hz
  have hlen := Lib.itoa_length_le n h1 h2
  go_enter Tryd.func3, Tryd.ntmps3
  go_wp2_with fail
  refine (dec_any n _ h1 h2 HT.out).mono ?_
  rintro e w1 ⟨rfl, hb⟩
  have HB := Lib.hid hb
  clear hb
  obtain ⟨S, hS⟩ : ∃ S : ByteArray, (⟨(Lib.itoa n).toArray⟩ : ByteArray) = S := ⟨_, rfl⟩
  have hSz : S.size ≤ 21 := by rw [← hS]; show (Lib.itoa n).toArray.size ≤ 21; simpa using hlen
  have HS := Lib.hid hS
  rw [hS]
  clear hS hlen
  go_wp2_with fail
  refine (read_any S _ (by omega) (HT.out.keep HB.out) (HE.out.keep HB.out)).mono ?_
  rintro e w2 (⟨v, hv, v1, v2, rfl, hb⟩ | ⟨hn, rfl, hb⟩)
  · have HB2 := Lib.hid (below_two HB.out hb)
    clear hb
    obtain rfl : v = n := itoa_inj v1 v2 h1 h2 (by rw [hv.out, ← HS.out])
    go_wp2_with fail
    refine (awake_any _ (HT.out.keep HB2.out)).mono ?_
    rintro e w3 ⟨rfl, hb⟩
    have HB3 := Lib.hid (below_two HB2.out hb)
    clear hb HB2
    go_wp2_with fail
    refine (refDec_any v _ h1 h2).mono ?_
    rintro e w4 ⟨rfl, k4, rfl⟩
    rw [HS.out]
    have HB4 := Lib.hid (below_drewN HB3.out k4)
    clear HB3
    go_wp2_with fail
    refine (oct_any m _ h3 h4 (HZ.out.keep HB4.out)).mono ?_
    rintro e w5 ⟨rfl, hb⟩
    have HB5 := Lib.hid (below_two HB4.out hb)
    clear hb HB4
    go_wp2_with fail
    refine (refDigits_any m _ _ h3 h4 (by omega) (by omega)).mono ?_
    rintro e w6 ⟨rfl, k6, rfl⟩
    have HB6 := Lib.hid (below_drewN HB5.out k6)
    clear HB5
    go_wp2_with fail
    refine (hex_any m _ h3 h4 (HZ.out.keep HB6.out)).mono ?_
    rintro e w7 ⟨rfl, hb⟩
    have HB7 := Lib.hid (below_two HB6.out hb)
    clear hb HB6
    go_wp2_with fail
    refine (refDigits_any m _ _ h3 h4 (by omega) (by omega)).mono ?_
    rintro e w8 ⟨rfl, k8, rfl⟩
    go_wp2_with fail
    go_ret
    exact ⟨rfl, below_drewN HB7.out _⟩
  · exact absurd (by rw [← HS.out]) (hn.out n h1 h2)
end Go.Proofs.YtghbamknhiiieaaDoor
