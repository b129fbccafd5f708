/-
  What the reference's Dec returns: the decimal digits, with a minus ahead of those of a number below 0. Conditions: the number is an int64.
-/
import Derived.Test.YtigkdehaepenhaaDoorRefDigits
import Derived.Test.YtigkdehaepenhaaDoorDec
import Derived.Lib.ItoaNum
namespace Go.Proofs.YtigkdehaepenhaaDoor.N
open Go.RowKit

theorem digB_length (b : Nat) (hb : 2 ≤ b) : ∀ (k n : Nat), n < 2 ^ (k + 1) → (digB b n).length ≤ k + 1
  | 0, n, h => by rw [digB, dif_pos (by left; simp at h; omega)]; simp
  | k + 1, n, h => by
    by_cases hn : n < b
    · rw [digB, dif_pos (.inl hn)]; simp
    · have e : n / b ≤ n / 2 := Nat.div_le_div_left hb (by decide)
      have := digB_length b hb k (n / b) (by rw [Nat.pow_succ] at h; omega)
      rw [digB, dif_neg (by omega), List.length_append]
      simp only [List.length_cons, List.length_nil]; omega

theorem digB_ten (n : Nat) : digB 10 n = Lib.decDigits n := by
  induction n using Nat.strongRecOn with
  | _ n ih =>
    rw [digB, Lib.decDigits]
    by_cases h : n < 10
    · rw [dif_pos (.inl h), dif_pos h, dch, if_pos h]
    · rw [dif_neg (by omega), dif_neg h, ih (n / 10) (by omega), dch, if_pos (by omega)]

theorem digB_size (b n : Int) (hb : 2 ≤ b) (hn : n ≤ 18446744073709551615) : (digB b.toNat n.toNat).length ≤ 64 :=
  digB_length b.toNat (by omega) 63 n.toNat (by omega)

set_option maxHeartbeats 400000 in
theorem refDec_any (n : Int) (w : World) (h1 : -9223372036854775808 ≤ n) (h2 : n ≤ 9223372036854775807) :
    Calls Tryd.prog 24 #[.int .i64 n] w fun e w' => e = .returned (.string ⟨(Lib.itoa n).toArray⟩) ∧ ∃ k, w' = w.drewN k := by
  by_cases hn : 0 ≤ n
  · go_enter Tryd.func24, Tryd.ntmps24
    go_wp2_with fail
    refine (refDigits_any _ _ _ (by omega) (by omega) (by omega) (by omega)).mono ?_
    rintro e w' ⟨rfl, k, rfl⟩
    have E := Lib.hid (show digB (10 : Int).toNat n.toNat = Lib.itoa n by rw [show (10 : Int).toNat = 10 from rfl, digB_ten, Lib.itoa, if_neg (by omega)])
    rw [E.out]
    go_wp2_with fail
    go_ret
    exact ⟨rfl, k, rfl⟩
  · go_enter Tryd.func24, Tryd.ntmps24
    go_wp2_with fail
    refine (refDigits_any _ _ _ (by omega) (by omega) (by omega) (by omega)).mono ?_
    rintro e w' ⟨rfl, k, rfl⟩
    have hz := digB_size 10 (-(n + 1) + 1) (by omega) (by omega)
    have E := Lib.hid (show (45 : UInt8) :: digB (10 : Int).toNat (-(n + 1) + 1).toNat = Lib.itoa n by rw [show (10 : Int).toNat = 10 from rfl, digB_ten, Lib.itoa, if_pos (by omega), show (-(n + 1) + 1).toNat = n.natAbs by omega])
    generalize digB (10 : Int).toNat (-(n + 1) + 1).toNat = l at *
    have hadd := run_string_add_sum (P := Tryd.prog) (w.drewN k) ⟨#[45]⟩ ⟨l.toArray⟩ (by show 1 + l.toArray.size ≤ _; simp; omega)
    rw [show (⟨#[45]⟩ : ByteArray) ++ ⟨l.toArray⟩ = ⟨(45 :: l).toArray⟩ by rw [show (⟨#[45]⟩ : ByteArray) = ⟨([45] : List UInt8).toArray⟩ from rfl, ByteArray.mk_append_mk]; rfl, E.out] at hadd
    go_wp2_with fail
    go_ret
    exact ⟨rfl, k, rfl⟩
end Go.Proofs.YtigkdehaepenhaaDoor.N
