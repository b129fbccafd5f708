/-
  Decimal numerals read and written: what is written is read back, and a short numeral without a leading nought is its number's own. Conditions: in each sentence. Of no program.
-/
import Derived.Lib.ItoaMem
import Derived.Lib.ParseIntBTie
import Derived.Lib.AtoiAllCases
namespace Go.Proofs.YtghbamknhiiieaaDoor
open Go.Lib

def IsDig (c : UInt8) : Prop := 48 ≤ c.toNat ∧ c.toNat ≤ 57

def valF (acc : Nat) (l : List UInt8) : Nat := l.foldl (fun a c => a * 10 + (c.toNat - 48)) acc

theorem valF_cons (acc : Nat) (c : UInt8) (l : List UInt8) : valF acc (c :: l) = valF (acc * 10 + (c.toNat - 48)) l := by unfold valF; rw [List.foldl_cons]
theorem valF_snoc (acc : Nat) (l : List UInt8) (c : UInt8) : valF acc (l ++ [c]) = valF acc l * 10 + (c.toNat - 48) := by simp [valF]
theorem valF_ge (l : List UInt8) : ∀ acc : Nat, acc ≤ valF acc l := by
  induction l with
  | nil => exact fun _ => Nat.le_refl _
  | cons c r ih =>
    intro acc
    rw [valF_cons]
    have := ih (acc * 10 + (c.toNat - 48))
    omega

theorem parse_digits (l : List UInt8) : ∀ acc : Nat, (∀ c ∈ l, IsDig c) → valF acc l ≤ 18446744073709551615 → parseUint10 acc l = .ok (valF acc l) := by
  induction l with
  | nil => intro acc _ _; rfl
  | cons c r ih =>
    intro acc hd hv
    have hc : 48 ≤ c.toNat ∧ c.toNat ≤ 57 := hd c (by simp)
    rw [valF_cons] at hv ⊢
    have hg := valF_ge r (acc * 10 + (c.toNat - 48))
    simp only [parseUint10, if_pos hc]
    rw [if_neg (by omega), if_neg (by omega)]
    exact ih _ (fun x hx => hd x (by simp [hx])) hv

theorem digit_val (d : Nat) (h : d < 10) : (UInt8.ofNat (48 + d)).toNat = 48 + d := by
  simp; omega

theorem dec_dig (u : Nat) : ∀ c ∈ decDigits u, IsDig c := by
  induction u using Nat.strongRecOn with
  | _ u ih =>
    rw [decDigits]
    by_cases h : u < 10
    · rw [dif_pos h]; intro c hc
      simp only [List.mem_singleton] at hc
      subst hc; unfold IsDig; rw [digit_val u h]; omega
    · rw [dif_neg h]; intro c hc
      rcases List.mem_append.1 hc with hc | hc
      · exact ih (u / 10) (by omega) c hc
      · simp only [List.mem_singleton] at hc
        subst hc; unfold IsDig; rw [digit_val _ (by omega)]; omega

theorem dec_ne (u : Nat) : decDigits u ≠ [] := by
  rw [decDigits]; split <;> simp

theorem dec_val (u : Nat) : valF 0 (decDigits u) = u := by
  induction u using Nat.strongRecOn with
  | _ u ih =>
    rw [decDigits]
    by_cases h : u < 10
    · rw [dif_pos h, valF_cons, digit_val u h]; simp [valF]
    · rw [dif_neg h, valF_snoc, ih (u / 10) (by omega), digit_val _ (by omega)]; omega

theorem mag_dec (u : Nat) (h : u ≤ 18446744073709551615) : parseMag (decDigits u) = .ok u := by
  unfold parseMag
  rw [if_neg (dec_ne u), parse_digits _ _ (dec_dig u) (by rw [dec_val]; exact h), dec_val]

/-- What is written is read back. -/
theorem parse_itoa (n : Int) (h1 : -9223372036854775808 ≤ n) (h2 : n ≤ 9223372036854775807) : parseIntB 64 (itoa n) = .ok n := by
  rw [parseIntB_64]
  by_cases hn : n < 0
  · rw [itoa, if_pos hn, atoiAll_minus, mag_dec _ (by omega), signed, if_neg (by omega)]
    congr 1; omega
  · rw [itoa, if_neg hn]
    obtain ⟨c, r, e⟩ := List.exists_cons_of_ne_nil (dec_ne n.toNat)
    have hc : IsDig c := dec_dig n.toNat c (by rw [e]; simp)
    unfold IsDig at hc
    rw [e, atoiAll_plain c r (by omega) (by omega), ← e, mag_dec _ (by omega), signless, if_neg (by omega)]
    congr 1; omega

theorem dec_app (l : List UInt8) : ∀ acc : Nat, 1 ≤ acc → (∀ c ∈ l, IsDig c) → decDigits (valF acc l) = decDigits acc ++ l := by
  induction l with
  | nil => intro acc _ _; simp [valF]
  | cons c r ih =>
    intro acc ha hd
    have hc : 48 ≤ c.toNat ∧ c.toNat ≤ 57 := hd c (by simp)
    rw [valF_cons, ih _ (by omega) (fun x hx => hd x (by simp [hx]))]
    rw [decDigits, dif_neg (by omega), show (acc * 10 + (c.toNat - 48)) / 10 = acc by omega, show 48 + (acc * 10 + (c.toNat - 48)) % 10 = c.toNat by omega]
    simp

theorem val_lt (l : List UInt8) : ∀ acc : Nat, (∀ c ∈ l, IsDig c) → valF acc l < (acc + 1) * 10 ^ l.length := by
  induction l with
  | nil => intro acc _; simp [valF]
  | cons c r ih =>
    intro acc hd
    have hc : 48 ≤ c.toNat ∧ c.toNat ≤ 57 := hd c (by simp)
    have := ih (acc * 10 + (c.toNat - 48)) (fun x hx => hd x (by simp [hx]))
    rw [valF_cons, List.length_cons, Nat.pow_succ, Nat.mul_comm (10 ^ r.length), ← Nat.mul_assoc]
    exact Nat.lt_of_lt_of_le this (Nat.mul_le_mul_right _ (by omega))

/-- A numeral of at most 18 digits without a leading nought is read, and is its number's own. -/
theorem parse_plain (c : UInt8) (r : List UInt8) (h1 : 49 ≤ c.toNat) (h2 : c.toNat ≤ 57) (hd : ∀ x ∈ c :: r, IsDig x) (hl : (c :: r).length < 19) :
    ∃ v, parseIntB 64 (c :: r) = .ok v ∧ itoa v = c :: r := by
  have hv := val_lt (c :: r) 0 hd
  have hp : 10 ^ (c :: r).length ≤ 10 ^ 18 := Nat.pow_le_pow_right (by decide) (by omega)
  have e18 : (10 : Nat) ^ 18 = 1000000000000000000 := by decide
  refine ⟨(valF 0 (c :: r) : Nat), ?_, ?_⟩
  · rw [parseIntB_64, atoiAll_plain c r (by omega) (by omega), parseMag, if_neg (by simp), parse_digits _ _ hd (by omega), signless, if_neg (by omega)]
  · rw [itoa_nonneg, valF_cons, Nat.zero_mul, Nat.zero_add, dec_app r _ (by omega) (fun x hx => hd x (by simp [hx])), decDigits, dif_pos (by omega), show 48 + (c.toNat - 48) = c.toNat by omega]
    simp
end Go.Proofs.YtghbamknhiiieaaDoor
