/-
  What digits.Dec and the laws' own first question return: the decimal digits of a number; true. Conditions: the library's table of powers of ten lies as its text lays it.
  Whole numbers of small size as float64s: the difference of two, made an int again, is the difference of the numbers. Conditions: both are below 2^52 in size. Of no program.
  What the library's count of trailing noughts returns at 8 and at 16. Conditions: the library's table lies as its text lays it.
  What the reference's Dec returns: the decimal digits, with a minus ahead of those of a number below 0. Conditions: the number is an int64.
  What the library's formatting of a uint64 in a base of 8 or 16 returns: its digits. Conditions: the library's table lies as its text lays it.
  What padding returns: the text with as many blanks behind it as its told width lacks; and the reference's blanks. Conditions: the widths are ints, the text has at most 100 bytes.
  What padding on the left returns; and the law DigitsPads, walked. Conditions: the widths are ints, the text has at most 100 bytes; the library's tables lie as their text lays them.
-/
import Derived.Test.YtknfhphhcnbndaaGreatDoorFAdd
import Derived.Test.YtknfhphhcnbndaaGreatDoorShelf
import Derived.WalkSmall
import Derived.Lib.LaidTab
import Derived.Lib.AppendIntMem
import Derived.Laws.FloatArith
import Derived.Lib.ItoaNum
import Derived.Lib.AtoiErrMem
import Derived.Lib.ItoaMem
import Derived.Laws.IdiomStrings
set_option linter.unusedVariables false
set_option linter.unusedSimpArgs false
namespace Go.Proofs.YtknfhphhcnbndaaGreatDoor.N
open Go.RowKit

/-- The table that the library reads, as its text lays it. -/
def Tab (w : World) : Prop := Lib.TabIs Tryz.prog w "internal/strconv.uint64pow10" .u64 Lib.pow10Tab

theorem gTab : Tryz.prog.globalNamed "internal/strconv.uint64pow10" = some 6 := by kernel_rfl

theorem var_lt {P : Program} {w : World} {n : String} {g : Nat} {cs : Array Value} (hg : P.globalNamed n = some g) (h : w.var? P n = some cs) : g < w.heap.size := by
  unfold World.var? at h
  simp only [hg, Option.bind_some] at h
  rcases Nat.lt_or_ge g w.heap.size with hl | hl
  · exact hl
  · rw [Array.getElem?_eq_none hl] at h
    simp at h

theorem Tab.keep {w w' : World} (h : Tab w) (hb : Below w.heap.size w w') : Tab w' :=
  var?_below hb gTab (var_lt gTab h) h

theorem below_two {w a b : World} (h : Below w.heap.size w a) (k : Below a.heap.size a b) : Below w.heap.size w b := h.trans (k.mono h.size)

theorem dec_any (n : Int) (w : World) (h1 : -9223372036854775808 ≤ n) (h2 : n ≤ 9223372036854775807) (ht : Tab w) :
    Calls Tryz.prog 151 #[.int .i64 n] w fun e w' => e = .returned (.string ⟨(Lib.itoa n).toArray⟩) ∧ Below w.heap.size w w' := by
  have HT := Lib.hid ht
  clear ht
  go_enter Tryz.func151, Tryz.ntmps151
  go_wp2_with fail
  refine (Tryz.strconv_FormatInt_10 n h1 h2 _ HT.out).mono ?_
  rintro e w' ⟨rfl, k, os, rfl⟩
  go_wp2_with fail
  go_ret
  exact ⟨rfl, Lib.below_grow _ _ (Nat.le_refl _) k os⟩

end Go.Proofs.YtknfhphhcnbndaaGreatDoor.N

namespace Go.Proofs.YtknfhphhcnbndaaGreatDoor.N
open Ieee

theorem log2_of {n k : Nat} (h1 : 2 ^ k ≤ n) (h2 : n < 2 ^ (k + 1)) : n.log2 = k :=
  (Nat.log2_eq_iff (by have := Nat.two_pow_pos k; omega)).2 ⟨h1, h2⟩

theorem log2_mul (n i : Nat) (h : 1 ≤ n) : (n * 2 ^ i).log2 = n.log2 + i := by
  refine log2_of ?_ ?_
  · rw [Nat.pow_add]; exact Nat.mul_le_mul_right _ (Nat.log2_self_le (by omega))
  · rw [show n.log2 + i + 1 = n.log2 + 1 + i by omega, Nat.pow_add]; exact Nat.mul_lt_mul_of_pos_right Nat.lt_log2_self (Nat.two_pow_pos i)

theorem cut_exact (way : Toward) (neg : Bool) (n drop : Nat) (h : n % 2 ^ drop = 0) : way.cut neg n drop = n / 2 ^ drop := by
  have hg : n % 2 ^ min drop (n.log2 + 2) = 0 :=
    Nat.mod_eq_zero_of_dvd (Nat.dvd_trans (Nat.pow_dvd_pow 2 (Nat.min_le_left _ _)) (Nat.dvd_of_mod_eq_zero h))
  have hp := Nat.two_pow_pos (min drop (n.log2 + 2))
  have hl : n / 2 ^ min drop (n.log2 + 2) = n / 2 ^ drop := by
    by_cases hd : drop ≤ n.log2 + 2
    · rw [Nat.min_eq_left hd]
    · have : n < 2 ^ drop := Nat.lt_of_lt_of_le Nat.lt_log2_self (Nat.pow_le_pow_right (by decide) (by omega))
      rw [Nat.mod_eq_of_lt this] at h
      subst h; simp
  unfold Toward.cut
  simp only [Nat.shiftLeft_eq, Nat.one_mul, hg, hl]
  cases way <;> simp <;> omega

theorem read_word (s : Bool) (K e : Nat) (h1 : 2 ^ 52 ≤ K) (h2 : K < 2 ^ 53) (he : e < 2045) :
    double.read (double.word s (min (e * double.binade + K) double.infRung)) = .number s K (double.leastPlace + e) := by
  have hb : double.binade = 4503599627370496 := by rfl
  have hi : double.infRung = 9218868437227405312 := by rfl
  have hs : double.signWeight = 9223372036854775808 := by rfl
  have hm : min (e * double.binade + K) double.infRung = e * 4503599627370496 + K := by rw [hb, hi]; omega
  rw [hm]
  unfold Format.read Format.word
  rw [hb, hi, hs]
  have k1 : 4503599627370496 ≤ K := h1
  have k2 : K < 9007199254740992 := h2
  have e1 : (if s = true then 9223372036854775808 + (e * 4503599627370496 + K) else e * 4503599627370496 + K) % 9223372036854775808 = e * 4503599627370496 + K := by split <;> omega
  have e2 : ((if s = true then 9223372036854775808 + (e * 4503599627370496 + K) else e * 4503599627370496 + K) / 9223372036854775808 % 2 == 1) = s := by
    cases s
    · simp; omega
    · simp; omega
  simp only [e1, e2]
  rw [if_neg (by omega), if_pos (by omega)]
  congr 1
  · omega
  · congr 1
    have : (e * 4503599627370496 + K) / 4503599627370496 - 1 = e := by omega
    rw [this]

/-- What a whole number below 2^53 is written and read as. -/
theorem read_nearest (s : Bool) (n i : Nat) (h1 : 1 ≤ n) (h2 : n < 2 ^ 53) :
    double.read (double.nearest s (n * 2 ^ i) (-(i : Int))) = .number s (n * 2 ^ (52 - n.log2)) (-((52 - n.log2 : Nat) : Int)) := by
  have hl : n.log2 ≤ 52 := by
    have : n.log2 < 53 := (Nat.log2_lt (by omega)).2 h2
    omega
  have hp : double.leastPlace = -1074 := by rfl
  have hf : double.fractionBits = 52 := by rfl
  have hpos := Nat.two_pow_pos i
  have hne : n * 2 ^ i ≠ 0 := Nat.mul_ne_zero (by omega) (by omega)
  unfold Format.nearest
  rw [if_neg hne]
  simp only [log2_mul n i h1, hp, hf]
  have el : max (-(i : Int) + ((n.log2 + i : Nat) : Int) - ((52 : Nat) : Int)) (-1074) = -((52 - n.log2 : Nat) : Int) := by omega
  rw [el]
  have K : Toward.even.cut s ((n * 2 ^ i) <<< (-(i : Int) - -((52 - n.log2 : Nat) : Int)).toNat) (-((52 - n.log2 : Nat) : Int) - -(i : Int)).toNat = n * 2 ^ (52 - n.log2) := by
    generalize 52 - n.log2 = j
    rcases Nat.le_total i j with hij | hij
    · rw [show (-(i : Int) - -(j : Int)).toNat = j - i by omega, show (-(j : Int) - -(i : Int)).toNat = 0 by omega, cut_exact _ _ _ _ (by simp [Nat.mod_one])]
      rw [Nat.shiftLeft_eq, Nat.mul_assoc, ← Nat.pow_add, show i + (j - i) = j by omega]; simp
    · rw [show (-(i : Int) - -(j : Int)).toNat = 0 by omega, show (-(j : Int) - -(i : Int)).toNat = i - j by omega, Nat.shiftLeft_zero]
      have e : n * 2 ^ i = n * 2 ^ j * 2 ^ (i - j) := by rw [Nat.mul_assoc, ← Nat.pow_add, show j + (i - j) = i by omega]
      rw [e, cut_exact _ _ _ _ (Nat.mul_mod_left _ _), Nat.mul_div_cancel _ (Nat.two_pow_pos _)]
  rw [K]
  have a1 : 2 ^ 52 ≤ n * 2 ^ (52 - n.log2) := by
    have := Nat.mul_le_mul_right (2 ^ (52 - n.log2)) (Nat.log2_self_le (show n ≠ 0 by omega))
    rwa [← Nat.pow_add, show n.log2 + (52 - n.log2) = 52 by omega] at this
  have a2 : n * 2 ^ (52 - n.log2) < 2 ^ 53 := by
    have := Nat.mul_lt_mul_of_pos_right (Nat.lt_log2_self (n := n)) (Nat.two_pow_pos (52 - n.log2))
    rwa [← Nat.pow_add, show n.log2 + 1 + (52 - n.log2) = 53 by omega] at this
  generalize hj : 52 - n.log2 = j at *
  rw [show (-(j : Int) - (-1074 : Int)).toNat = 1074 - j by omega, read_word s _ _ a1 a2 (by omega), hp]
  congr 1
  omega

/-- A datum that is a whole number. -/
def IsWhole (d : Datum) (z : Int) : Prop := ∃ (s : Bool) (m i : Nat), d = .number s (m * 2 ^ i) (-(i : Int)) ∧ z = (if s then -(m : Int) else m)

theorem whole_read (s : Bool) (n i : Nat) (h2 : n < 2 ^ 53) : IsWhole (double.read (double.nearest s (n * 2 ^ i) (-(i : Int)))) (if s then -(n : Int) else n) := by
  by_cases h : n = 0
  · subst h
    refine ⟨s, 0, 1074, ?_, by simp⟩
    simp only [Nat.zero_mul]
    unfold Format.nearest
    rw [if_pos rfl]
    cases s <;> rfl
  · exact ⟨s, n, 52 - n.log2, read_nearest s n i (by omega) h2, rfl⟩

theorem whole_ofInt (z : Int) (h : z.natAbs < 2 ^ 53) : IsWhole (FloatKind.f64.decode (floatOfInt .f64 z)) z := by
  have := whole_read (decide (z < 0)) z.natAbs 0 h
  simp only [Nat.pow_zero, Nat.mul_one] at this
  have e : (if decide (z < 0) = true then -(z.natAbs : Int) else z.natAbs) = z := by
    by_cases hz : z < 0 <;> simp [hz] <;> omega
  rw [e] at this
  exact this

theorem signed_val (s : Bool) (m i k : Nat) (h : i ≤ k) : signed s (m * 2 ^ i) (-(i : Int) - -(k : Int)).toNat = (if s then -(m : Int) else m) * 2 ^ k := by
  rw [show (-(i : Int) - -(k : Int)).toNat = k - i by omega]
  unfold signed
  have e : ((m * 2 ^ i) <<< (k - i) : Nat) = m * 2 ^ k := by rw [Nat.shiftLeft_eq, Nat.mul_assoc, ← Nat.pow_add, show i + (k - i) = k by omega]
  rw [e]
  cases s <;> simp [Int.neg_mul]

theorem whole_sub {x y : Datum} {a b : Int} (hx : IsWhole x a) (hy : IsWhole y b) : ∃ d, x.sum y.opposite = some d ∧ ∃ (s : Bool) (m i : Nat), d = .number s (m * 2 ^ i) (-(i : Int)) ∧ a - b = (if s then -(m : Int) else m) ∧ m = (a - b).natAbs := by
  obtain ⟨s, m, i, rfl, ha⟩ := hx
  obtain ⟨t, n, j, rfl, hb⟩ := hy
  have hbase : min (-(i : Int)) (-(j : Int)) = -((max i j : Nat) : Int) := by omega
  have e1 := signed_val s m i (max i j) (by omega)
  have e2 := signed_val (!t) n j (max i j) (by omega)
  rw [← ha] at e1
  have e3 : (if (!t) = true then -(n : Int) else n) = -b := by rw [hb]; cases t <;> simp
  rw [e3] at e2
  have p0 : 0 < (2 : Int) ^ max i j := Int.pow_pos (by decide)
  have tot : a * 2 ^ max i j + -b * 2 ^ max i j = (a - b) * 2 ^ max i j := by rw [← Int.add_mul, Int.sub_eq_add_neg]
  have hz : ((a - b) * 2 ^ max i j = 0) ↔ a - b = 0 := by
    constructor
    · intro h
      rcases Int.mul_eq_zero.1 h with h | h
      · exact h
      · omega
    · intro h; rw [h, Int.zero_mul]
  have hn : ((a - b) * 2 ^ max i j < 0) ↔ a - b < 0 := by
    constructor
    · intro h
      rcases Int.lt_or_le (a - b) 0 with k | k
      · exact k
      · have := Int.mul_nonneg k (Int.le_of_lt p0); omega
    · intro h; exact Int.mul_neg_of_neg_of_pos h p0
  refine ⟨_, rfl, (if (a - b) * 2 ^ max i j = 0 then s && !t else decide ((a - b) * 2 ^ max i j < 0)), (a - b).natAbs, max i j, ?_, ?_, rfl⟩
  · simp only [hbase, e1, e2, tot]
    congr 1
    rw [Int.natAbs_mul, Int.natAbs_pow]; rfl
  · by_cases h0 : a - b = 0
    · rw [h0]; simp
    · rw [if_neg (fun h => h0 (hz.1 h))]
      by_cases h1 : a - b < 0
      · simp only [decide_eq_true (hn.2 h1)]; simp; omega
      · simp only [decide_eq_false (fun h => h1 (hn.1 h))]; simp; omega

theorem whole_toInt {d : Datum} {z : Int} (h : IsWhole d z) : d.toInt .zero = some z := by
  obtain ⟨s, m, i, rfl, hz⟩ := h
  show some (signed s (Toward.zero.cut s ((m * 2 ^ i) <<< (-(i : Int)).toNat) (- -(i : Int)).toNat) 0) = some z
  rw [show (-(i : Int)).toNat = 0 by omega, show (- -(i : Int)).toNat = i by omega, Nat.shiftLeft_zero, cut_exact _ _ _ _ (Nat.mul_mod_left _ _), Nat.mul_div_cancel _ (Nat.two_pow_pos _)]
  simp only [signed, Nat.shiftLeft_zero, hz]

/-- The difference of two whole numbers as float64s, made an int. -/
theorem float_diff (a b : Int) (ha0 : 0 ≤ a) (ha : a ≤ 10000) (hb0 : 0 ≤ b) (hb : b ≤ 10000) : ∃ r, floatBits .sub .f64 (floatOfInt .f64 a) (floatOfInt .f64 b) = some r ∧ floatToIntVal .f64 r .i64 = some (a - b) := by
  obtain ⟨d, hd, s, m, i, rfl, hs, hm⟩ := whole_sub (whole_ofInt a (by omega)) (whole_ofInt b (by omega))
  refine ⟨double.nearest s (m * 2 ^ i) (-(i : Int)), ?_, ?_⟩
  · show ((double.read _).sum (double.read _).opposite).map double.write = _
    have : ((double.read (floatOfInt .f64 a)).sum (double.read (floatOfInt .f64 b)).opposite) = some (.number s (m * 2 ^ i) (-(i : Int))) := hd
    rw [this]; rfl
  · have w := whole_read s m i (by omega)
    rw [← hs] at w
    unfold floatToIntVal
    have := whole_toInt w
    rw [show FloatKind.f64.decode (double.nearest s (m * 2 ^ i) (-(i : Int))) = double.read (double.nearest s (m * 2 ^ i) (-(i : Int))) from rfl, this]
    simp only
    rw [if_pos]
    simp [IntKind.min, IntKind.max, IntKind.bits, IntKind.signed]
    omega
end Go.Proofs.YtknfhphhcnbndaaGreatDoor.N

namespace Go.Proofs.YtknfhphhcnbndaaGreatDoor.N
open Go.RowKit

/-- The two cells of the library's table that are read. -/
def TzTab (w : World) : Prop := w.cell? ⟨11, 7, none⟩ = some (.int .u8 3) ∧ w.cell? ⟨11, 15, none⟩ = some (.int .u8 4)

set_option maxHeartbeats 400000 in
theorem tz_eight (w : World) (ht : TzTab w) : Calls Tryz.prog 310 #[.int .u64 8] w fun e w' => e = .returned (.int .i64 3) ∧ w = w' := by
  obtain ⟨h1, _⟩ := ht
  have e8 : IntKind.u64.wrap (bits BinOp.and IntKind.u64 8 (IntKind.u64.wrap (-8)) * 285870213051353865) / 288230376151711744 = 7 := by decide +kernel
  go_enter Tryz.func310, Tryz.ntmps310
  go_wp2
  go_ret
  exact ⟨rfl, rfl⟩
set_option maxHeartbeats 400000 in
theorem tz_sixteen (w : World) (ht : TzTab w) : Calls Tryz.prog 310 #[.int .u64 16] w fun e w' => e = .returned (.int .i64 4) ∧ w = w' := by
  obtain ⟨_, h2⟩ := ht
  have e16 : IntKind.u64.wrap (bits BinOp.and IntKind.u64 16 (IntKind.u64.wrap (-16)) * 285870213051353865) / 288230376151711744 = 15 := by decide +kernel
  go_enter Tryz.func310, Tryz.ntmps310
  go_wp2
  go_ret
  exact ⟨rfl, rfl⟩
end Go.Proofs.YtknfhphhcnbndaaGreatDoor.N

namespace Go.Proofs.YtknfhphhcnbndaaGreatDoor.N
open Go.RowKit

theorem digB_length (b : Nat) (hb : 2 ≤ b) : ∀ (k n : Nat), n < 2 ^ (k + 1) → (digB b n).length ≤ k + 1
  | 0, n, h => by rw [digB, dif_pos (by left; simp at h; omega)]; simp
  | k + 1, n, h => by
    by_cases hn : n < b
    · rw [digB, dif_pos (.inl hn)]; simp
    · have e : n / b ≤ n / 2 := Nat.div_le_div_left hb (by decide)
      have := digB_length b hb k (n / b) (by rw [Nat.pow_succ] at h; omega)
      rw [digB, dif_neg (by omega), List.length_append]
      simp only [List.length_cons, List.length_nil]; omega

theorem digB_ten (n : Nat) : digB 10 n = Lib.decDigits n := by
  induction n using Nat.strongRecOn with
  | _ n ih =>
    rw [digB, Lib.decDigits]
    by_cases h : n < 10
    · rw [dif_pos (.inl h), dif_pos h, dch, if_pos h]
    · rw [dif_neg (by omega), dif_neg h, ih (n / 10) (by omega), dch, if_pos (by omega)]

theorem digB_size (b n : Int) (hb : 2 ≤ b) (hn : n ≤ 18446744073709551615) : (digB b.toNat n.toNat).length ≤ 64 :=
  digB_length b.toNat (by omega) 63 n.toNat (by omega)

set_option maxHeartbeats 400000 in
theorem refDec_any (n : Int) (w : World) (h1 : -9223372036854775808 ≤ n) (h2 : n ≤ 9223372036854775807) :
    Calls Tryz.prog 103 #[.int .i64 n] w fun e w' => e = .returned (.string ⟨(Lib.itoa n).toArray⟩) ∧ ∃ k, w' = w.drewN k := by
  by_cases hn : 0 ≤ n
  · go_enter Tryz.func103, Tryz.ntmps103
    go_wp2_with fail
    refine (refDigits_any _ _ _ (by omega) (by omega) (by omega) (by omega)).mono ?_
    rintro e w' ⟨rfl, k, rfl⟩
    have E := Lib.hid (show digB (10 : Int).toNat n.toNat = Lib.itoa n by rw [show (10 : Int).toNat = 10 from rfl, digB_ten, Lib.itoa, if_neg (by omega)])
    rw [E.out]
    go_wp2_with fail
    go_ret
    exact ⟨rfl, k, rfl⟩
  · go_enter Tryz.func103, Tryz.ntmps103
    go_wp2_with fail
    refine (refDigits_any _ _ _ (by omega) (by omega) (by omega) (by omega)).mono ?_
    rintro e w' ⟨rfl, k, rfl⟩
    have hz := digB_size 10 (-(n + 1) + 1) (by omega) (by omega)
    have E := Lib.hid (show (45 : UInt8) :: digB (10 : Int).toNat (-(n + 1) + 1).toNat = Lib.itoa n by rw [show (10 : Int).toNat = 10 from rfl, digB_ten, Lib.itoa, if_pos (by omega), show (-(n + 1) + 1).toNat = n.natAbs by omega])
    generalize digB (10 : Int).toNat (-(n + 1) + 1).toNat = l at *
    have hadd := run_string_add_sum (P := Tryz.prog) (w.drewN k) ⟨#[45]⟩ ⟨l.toArray⟩ (by show 1 + l.toArray.size ≤ _; simp; omega)
    rw [show (⟨#[45]⟩ : ByteArray) ++ ⟨l.toArray⟩ = ⟨(45 :: l).toArray⟩ by rw [show (⟨#[45]⟩ : ByteArray) = ⟨([45] : List UInt8).toArray⟩ from rfl, ByteArray.mk_append_mk]; rfl, E.out] at hadd
    go_wp2_with fail
    go_ret
    exact ⟨rfl, k, rfl⟩
end Go.Proofs.YtknfhphhcnbndaaGreatDoor.N

namespace Go.Proofs.YtknfhphhcnbndaaGreatDoor.N
open Go.RowKit

/-- What the loop keeps in memory: a row of 65 bytes of the call's own, of which those from place i on are l. -/
structure Row65 (w wr : World) (B : Nat) (i : Int) (l : List UInt8) : Prop where
  bel : Below B w wr
  lt : B < wr.heap.size
  cell : ∀ t : Nat, t < 65 → ∃ z : Int, wr.cell? ⟨B, t, none⟩ = some (.int .u8 z)
  free : ∀ t : Nat, t < 65 → wr.frozen? ⟨B, t, none⟩ = false
  len : i.toNat + l.length = 65
  held : ∀ j : Nat, j < l.length → wr.cell? ⟨B, i.toNat + j, none⟩ = some (.int .u8 ((l.getD j 0).toNat : Int))

theorem pow_eight (w : World) : Calls Tryz.prog 309 #[.int .i64 8] w fun e w' => e = .returned (.bool true) ∧ w = w' := by
  have e8 : (bits BinOp.and IntKind.i64 8 7 == 0) = true := by decide +kernel
  go_enter Tryz.func309, Tryz.ntmps309
  go_wp2
  go_ret
  exact ⟨by rw [← e8]; rfl, rfl⟩
theorem pow_sixteen (w : World) : Calls Tryz.prog 309 #[.int .i64 16] w fun e w' => e = .returned (.bool true) ∧ w = w' := by
  have e8 : (bits BinOp.and IntKind.i64 16 15 == 0) = true := by decide +kernel
  go_enter Tryz.func309, Tryz.ntmps309
  go_wp2
  go_ret
  exact ⟨by rw [← e8]; rfl, rfl⟩

theorem TzTab.alloc {w : World} (h : TzTab w) (o : Obj) : TzTab (w.alloc o) := by
  have hb : Below w.heap.size w (w.alloc o) := (Below.refl _ _).alloc (Nat.le_refl _) o
  exact ⟨by rw [hb.cell (Lib.lt_of_cell h.1)]; exact h.1, by rw [hb.cell (Lib.lt_of_cell h.2)]; exact h.2⟩

theorem Row65.start (w : World) : Row65 w (w.alloc (.cells Tryz.zeroCells389 389)) w.heap.size 65 [] := by
  have e : Tryz.zeroCells389 = Array.replicate 65 (.int .u8 0) := by kernel_rfl
  refine ⟨(Below.refl _ _).alloc (Nat.le_refl _) _, by simp, fun t ht => ⟨0, ?_⟩, fun t _ => World.frozen?_alloc_new _ _ _ _, by decide, fun j hj => by simp at hj⟩
  rw [World.cell?_alloc_new, e, Array.getElem?_replicate, if_pos ht]

theorem Row65.store {w wr : World} {B : Nat} {k : Int} {l : List UInt8} (h : Row65 w wr B k l) (h1 : 1 ≤ k) (d : UInt8) :
    Row65 w (wr.setCell ⟨B, k.toNat - 1, none⟩ (.int .u8 (d.toNat : Int))) B (k - 1) (d :: l) := by
  have hl := h.len
  have hk : k.toNat - 1 < 65 := by omega
  have ek : (k - 1).toNat = k.toNat - 1 := by omega
  obtain ⟨z, hz⟩ := h.cell _ hk
  have other : ∀ t : Nat, t ≠ k.toNat - 1 → (wr.setCell ⟨B, k.toNat - 1, none⟩ (.int .u8 (d.toNat : Int))).cell? ⟨B, t, none⟩ = wr.cell? ⟨B, t, none⟩ := fun t ht =>
    World.cell?_setCell_other _ _ _ _ (by intro e; injection e with _ e2; omega)
  refine ⟨h.bel.setCell (Nat.le_refl _) _, by rw [World.size_setCell]; exact h.lt, fun t ht => ?_, fun t ht => by rw [World.frozen?_setCell]; exact h.free t ht, by rw [List.length_cons]; omega, fun j hj => ?_⟩
  · by_cases e : t = k.toNat - 1
    · subst e; exact ⟨_, World.cell?_setCell_same _ _ _ hz⟩
    · rw [other t e]; exact h.cell t ht
  · rw [ek]
    cases j with
    | zero => exact World.cell?_setCell_same _ _ _ hz
    | succ i =>
      have hi : i < l.length := by simpa using hj
      rw [other _ (by omega), show k.toNat - 1 + (i + 1) = k.toNat + i by omega, h.held i hi]
      simp

def digText : ByteArray := ⟨#[48, 49, 50, 51, 52, 53, 54, 55, 56, 57, 97, 98, 99, 100, 101, 102, 103, 104, 105, 106, 107, 108, 109, 110, 111, 112, 113, 114, 115, 116, 117, 118, 119, 120, 121, 122]⟩
theorem digText_at : ∀ d : Fin 16, digText.data.toList.getD d.val 0 = dch d.val := by decide +kernel

theorem dig_index (P : Program) (t : TypeId) (ht : P.underlying t = some .string) (z : Int) (d : Nat) (hz : z = (d : Int)) (hd : d < 16) (W : World) :
    (Instr.index t (.string ⟨#[48, 49, 50, 51, 52, 53, 54, 55, 56, 57, 97, 98, 99, 100, 101, 102, 103, 104, 105, 106, 107, 108, 109, 110, 111, 112, 113, 114, 115, 116, 117, 118, 119, 120, 121, 122]⟩) (.int .u64 z)).run P W = .ok (.int .u8 ((dch d).toNat : Int)) W := by
  subst hz
  have hs : digText.size = 36 := by decide +kernel
  show (Instr.index t (.string digText) (.int .u64 (d : Int))).run P W = _
  rw [run_index_string W t digText .u64 _ ht, dif_pos ⟨by omega, by rw [hs]; omega⟩]
  simp only [Int.toNat_natCast]
  rw [Lib.getD_at digText d (by rw [hs]; omega)]
  have := digText_at ⟨d, hd⟩
  simp only at this
  rw [this]

theorem arr65 : Tryz.prog.arrayLen 389 = 65 := by simp [Program.arrayLen, Tryz.underlying389]
theorem arrT : Tryz.prog.underlying 389 = some (.array (Tryz.prog.arrayLen 389) (Tryz.prog.elem 389)) := by
  simp [Program.arrayLen, Program.elem, Tryz.underlying389]

theorem tail_slice (B : Nat) (k : Int) (h1 : 1 ≤ k) (h2 : k ≤ 65) (W : World) :
    (Instr.sliceAt 389 (.pointer (some ⟨B, 0, none⟩)) (some (.int .i64 (k - 1))) none none).run Tryz.prog W = .ok (.slice (some ⟨B, k.toNat - 1, none⟩) (65 - (k.toNat - 1)) (65 - (k.toNat - 1))) W := by
  rw [run_sliceAt_array_l W 389 ⟨B, 0, none⟩ arrT .i64 (k - 1) (by omega) (by rw [arr65]; omega), arr65]
  go_simp
  omega

theorem tail_text {w wr : World} {B : Nat} {k : Int} {l : List UInt8} (h : Row65 w wr B (k - 1) l) (h1 : 1 ≤ k) :
    (convert 122 9 (.slice (some ⟨B, k.toNat - 1, none⟩) (65 - (k.toNat - 1)) (65 - (k.toNat - 1)))).run Tryz.prog wr = .ok (.string ⟨l.toArray⟩) wr := by
  have hl := h.len
  have := run_convert_bytes_back (P := Tryz.prog) wr 122 9 5 ⟨B, k.toNat - 1, none⟩ (65 - (k.toNat - 1)) l Tryz.underlying122 Tryz.underlying5 Tryz.underlying9 (fun j hj => by
    rw [Lib.add_plain]
    have := h.held j hj
    rw [show (k - 1).toNat = k.toNat - 1 by omega] at this
    rw [this]
    simp [List.getD_eq_getElem?_getD, hj])
  rw [show l.length = 65 - (k.toNat - 1) by omega] at this
  exact this

theorem dig_len {b n m : Nat} {l : List UInt8} (hb : 2 ≤ b) (hn : n ≤ 18446744073709551615) (h : digB b n = digB b m ++ l) : l.length ≤ 63 := by
  have a := digB_length b hb 63 n (by omega)
  rw [h, List.length_append] at a
  have : 1 ≤ (digB b m).length := by rw [digB]; split <;> simp
  omega

theorem dig_next {b n m : Nat} {l : List UInt8} (hb : 2 ≤ b) (h : digB b n = digB b m ++ l) (hm : b ≤ m) : digB b n = digB b (m / b) ++ (dch (m % b) :: l) := by
  rw [h, digB, dif_neg (by omega)]; simp

theorem dig_last {b n m : Nat} {l : List UInt8} (h : digB b n = digB b m ++ l) (hm : m < b) : dch m :: l = digB b n := by
  rw [h, digB, dif_pos (.inl hm)]; rfl

theorem ret_pair {a b : List UInt8} (h : a = b) : Ending.returned (.tuple #[.slice none 0 0, .string ⟨a.toArray⟩]) = .returned (.tuple #[.slice none 0 0, .string ⟨b.toArray⟩]) := by rw [h]

set_option maxHeartbeats 1000000 in
set_option maxRecDepth 100000 in
theorem bits_eight (n : Int) (w : World) (h1 : 0 ≤ n) (h2 : n ≤ 18446744073709551615) (ht : TzTab w) :
    Calls Tryz.prog 282 #[.slice none 0 0, .int .u64 n, .int .i64 8, .bool false, .bool false] w fun e w' => e = .returned (.tuple #[.slice none 0 0, .string ⟨(digB 8 n.toNat).toArray⟩]) ∧ Below w.heap.size w w' := by
  have HT := Lib.hid ht
  clear ht
  go_enter Tryz.func282, Tryz.ntmps282
  go_wp2_with fail
  refine (pow_eight _).mono ?_
  rintro e w' ⟨rfl, rfl⟩
  go_wp2_with fail
  refine (tz_eight _ (HT.out.alloc _)).mono ?_
  rintro e w' ⟨rfl, rfl⟩
  go_wp2_with fail
  go_loopw [1, 13] (fun u i wr => ∃ (m k : Int) (l : List UInt8), u = .int .u64 m ∧ i = .int .i64 k ∧ 0 ≤ m ∧ m ≤ 18446744073709551615 ∧ 2 ≤ k ∧ k ≤ 65 ∧ Hid (digB 8 n.toNat = digB 8 m.toNat ++ l) ∧ Hid (Row65 w wr w.heap.size k l)) (fun _ i _ => (intOf i).toNat)
  case atStart => exact ⟨n, 65, [], rfl, rfl, h1, h2, by omega, by omega, Lib.hid (by simp), Lib.hid (Row65.start w)⟩
  case round =>
    obtain ⟨m, k, l, rfl, rfl, m0, m1, k0, k1, hd, hr⟩ := hrel
    rename World => wr
    obtain ⟨z, hc⟩ := hr.out.cell (k.toNat - 1) (by omega)
    have hf := hr.out.free (k.toNat - 1) (by omega)
    by_cases c : 8 ≤ m
    · have hx := dig_index Tryz.prog 9 Tryz.underlying9 (bits .and .u64 m 7) (m.toNat % 8) (by rw [u64_and m 7 m0 (by omega) (by omega) (by omega), show (7 : Int).toNat = 2 ^ 3 - 1 from rfl, Nat.and_two_pow_sub_one_eq_mod]) (by omega)
      have ND := Lib.hid (dig_next (by omega) hd.out (show 8 ≤ m.toNat by omega))
      have NL := Lib.hid (dig_len (by omega) (by omega) ND.out)
      have NR := Lib.hid (hr.out.store (by omega) (dch (m.toNat % 8)))
      have hk : 3 ≤ k := by have := NL.out; have := hr.out.len; simp only [List.length_cons] at this NL; have := NL.out; omega
      have em : (m / 8).toNat = m.toNat / 8 := by omega
      have EM := Lib.hid em
      clear em
      go_wp2
      go_roundw
      case rel => exact ⟨m / 8, k - 1, _, rfl, rfl, by omega, by omega, by omega, by omega, by rw [EM.out]; exact ND, NR⟩
      case measure => simp [intOf]; omega
    · have hx := dig_index Tryz.prog 9 Tryz.underlying9 m m.toNat (by omega) (by omega)
      have ND := Lib.hid (dig_last hd.out (show m.toNat < 8 by omega))
      have NR := Lib.hid (hr.out.store (by omega) (dch m.toNat))
      have hsl := tail_slice w.heap.size k (by omega) (by omega)
      have hcv := tail_text NR.out (by omega)
      rw [ND.out] at hcv
      generalize hD : digB 8 n.toNat = D at *
      have HD := Lib.hid hD
      clear hD
      go_wp2
      go_ret2
      exact ⟨ret_pair HD.out.symm, NR.out.bel⟩

set_option maxHeartbeats 1000000 in
set_option maxRecDepth 100000 in
theorem bits_sixteen (n : Int) (w : World) (h1 : 0 ≤ n) (h2 : n ≤ 18446744073709551615) (ht : TzTab w) :
    Calls Tryz.prog 282 #[.slice none 0 0, .int .u64 n, .int .i64 16, .bool false, .bool false] w fun e w' => e = .returned (.tuple #[.slice none 0 0, .string ⟨(digB 16 n.toNat).toArray⟩]) ∧ Below w.heap.size w w' := by
  have HT := Lib.hid ht
  clear ht
  go_enter Tryz.func282, Tryz.ntmps282
  go_wp2_with fail
  refine (pow_sixteen _).mono ?_
  rintro e w' ⟨rfl, rfl⟩
  go_wp2_with fail
  refine (tz_sixteen _ (HT.out.alloc _)).mono ?_
  rintro e w' ⟨rfl, rfl⟩
  go_wp2_with fail
  go_loopw [1, 13] (fun u i wr => ∃ (m k : Int) (l : List UInt8), u = .int .u64 m ∧ i = .int .i64 k ∧ 0 ≤ m ∧ m ≤ 18446744073709551615 ∧ 2 ≤ k ∧ k ≤ 65 ∧ Hid (digB 16 n.toNat = digB 16 m.toNat ++ l) ∧ Hid (Row65 w wr w.heap.size k l)) (fun _ i _ => (intOf i).toNat)
  case atStart => exact ⟨n, 65, [], rfl, rfl, h1, h2, by omega, by omega, Lib.hid (by simp), Lib.hid (Row65.start w)⟩
  case round =>
    obtain ⟨m, k, l, rfl, rfl, m0, m1, k0, k1, hd, hr⟩ := hrel
    rename World => wr
    obtain ⟨z, hc⟩ := hr.out.cell (k.toNat - 1) (by omega)
    have hf := hr.out.free (k.toNat - 1) (by omega)
    by_cases c : 16 ≤ m
    · have hx := dig_index Tryz.prog 9 Tryz.underlying9 (bits .and .u64 m 15) (m.toNat % 16) (by rw [u64_and m 15 m0 (by omega) (by omega) (by omega), show (15 : Int).toNat = 2 ^ 4 - 1 from rfl, Nat.and_two_pow_sub_one_eq_mod]) (by omega)
      have ND := Lib.hid (dig_next (by omega) hd.out (show 16 ≤ m.toNat by omega))
      have NL := Lib.hid (dig_len (by omega) (by omega) ND.out)
      have NR := Lib.hid (hr.out.store (by omega) (dch (m.toNat % 16)))
      have hk : 3 ≤ k := by have := NL.out; have := hr.out.len; simp only [List.length_cons] at this NL; have := NL.out; omega
      have em : (m / 16).toNat = m.toNat / 16 := by omega
      have EM := Lib.hid em
      clear em
      go_wp2
      go_roundw
      case rel => exact ⟨m / 16, k - 1, _, rfl, rfl, by omega, by omega, by omega, by omega, by rw [EM.out]; exact ND, NR⟩
      case measure => simp [intOf]; omega
    · have hx := dig_index Tryz.prog 9 Tryz.underlying9 m m.toNat (by omega) (by omega)
      have ND := Lib.hid (dig_last hd.out (show m.toNat < 16 by omega))
      have NR := Lib.hid (hr.out.store (by omega) (dch m.toNat))
      have hsl := tail_slice w.heap.size k (by omega) (by omega)
      have hcv := tail_text NR.out (by omega)
      rw [ND.out] at hcv
      generalize hD : digB 16 n.toNat = D at *
      have HD := Lib.hid hD
      clear hD
      go_wp2
      go_ret2
      exact ⟨ret_pair HD.out.symm, NR.out.bel⟩

def oneOf (b : Int) : Prop := b = 8 ∨ b = 16

set_option maxHeartbeats 400000 in
theorem formatI_any (n b : Int) (w : World) (h1 : 0 ≤ n) (h2 : n ≤ 18446744073709551615) (hb : oneOf b) (ht : TzTab w) :
    Calls Tryz.prog 278 #[.int .u64 n, .int .i64 b] w fun e w' => e = .returned (.string ⟨(digB b.toNat n.toNat).toArray⟩) ∧ Below w.heap.size w w' := by
  have HT := Lib.hid ht
  clear ht
  rcases hb with rfl | rfl
  · go_enter Tryz.func278, Tryz.ntmps278
    go_wp2_with fail
    refine (bits_eight _ _ h1 h2 HT.out).mono ?_
    rintro e w' ⟨rfl, hb⟩
    have HB := Lib.hid hb
    clear hb
    go_wp2_with fail
    go_ret
    exact ⟨rfl, HB.out⟩
  · go_enter Tryz.func278, Tryz.ntmps278
    go_wp2_with fail
    refine (bits_sixteen _ _ h1 h2 HT.out).mono ?_
    rintro e w' ⟨rfl, hb⟩
    have HB := Lib.hid hb
    clear hb
    go_wp2_with fail
    go_ret
    exact ⟨rfl, HB.out⟩

theorem formatU_any (n b : Int) (w : World) (h1 : 0 ≤ n) (h2 : n ≤ 18446744073709551615) (hb : oneOf b) (ht : TzTab w) :
    Calls Tryz.prog 236 #[.int .u64 n, .int .i64 b] w fun e w' => e = .returned (.string ⟨(digB b.toNat n.toNat).toArray⟩) ∧ Below w.heap.size w w' := by
  have HT := Lib.hid ht
  have HO := Lib.hid hb
  clear ht hb
  go_enter Tryz.func236, Tryz.ntmps236
  go_wp2_with fail
  refine (formatI_any _ _ _ h1 h2 HO.out HT.out).mono ?_
  rintro e w' ⟨rfl, hb⟩
  have HB := Lib.hid hb
  clear hb
  go_wp2_with fail
  go_ret
  exact ⟨rfl, HB.out⟩

theorem oct_any (n : Int) (w : World) (h1 : 0 ≤ n) (h2 : n ≤ 18446744073709551615) (ht : TzTab w) :
    Calls Tryz.prog 195 #[.int .u64 n] w fun e w' => e = .returned (.string ⟨(digB (8 : Int).toNat n.toNat).toArray⟩) ∧ Below w.heap.size w w' := by
  have HT := Lib.hid ht
  clear ht
  go_enter Tryz.func195, Tryz.ntmps195
  go_wp2_with fail
  refine (formatU_any _ _ _ h1 h2 (.inl rfl) HT.out).mono ?_
  rintro e w' ⟨rfl, hb⟩
  have HB := Lib.hid hb
  clear hb
  go_wp2_with fail
  go_ret
  exact ⟨rfl, HB.out⟩


theorem TzTab.keep {w w' : World} (h : TzTab w) (hb : Below w.heap.size w w') : TzTab w' :=
  ⟨by rw [hb.cell (Lib.lt_of_cell h.1)]; exact h.1, by rw [hb.cell (Lib.lt_of_cell h.2)]; exact h.2⟩
end Go.Proofs.YtknfhphhcnbndaaGreatDoor.N

namespace Go.Proofs.YtknfhphhcnbndaaGreatDoor.N
open Go.RowKit

/-- A width, cut to 0 .. 10000. -/
def clampZ (z : Int) : Int := min (max z 0) 10000
theorem clamp_bd (z : Int) : 0 ≤ clampZ z ∧ clampZ z ≤ 10000 := by unfold clampZ; omega

/-- How many blanks are lacking. -/
def lackN (width wanted : Int) : Nat := (clampZ wanted - clampZ width).toNat
theorem lack_le (a b : Int) : lackN a b ≤ 10000 := by have := clamp_bd a; have := clamp_bd b; unfold lackN; omega

def blankS (n : Nat) : ByteArray := ⟨(List.replicate n (32 : UInt8)).toArray⟩
theorem blankS_size (n : Nat) : (blankS n).size = n := by show (List.replicate n (32 : UInt8)).toArray.size = n; simp
theorem blankS_succ (n : Nat) : blankS n ++ ⟨#[32]⟩ = blankS (n + 1) := by
  unfold blankS
  rw [show (⟨#[32]⟩ : ByteArray) = ⟨([32] : List UInt8).toArray⟩ from rfl, ByteArray.mk_append_mk, ← List.replicate_succ']
theorem repeat_blank : ∀ n : Nat, Lib.repeatL [32] n = List.replicate n 32
  | 0 => rfl
  | n + 1 => by rw [Lib.repeatL, repeat_blank n]; rfl

theorem bounded_any (z : Int) (w : World) :
    Calls Tryz.prog 201 #[.int .i64 z] w fun e w' => e = .returned (.float .f64 (floatOfInt .f64 (clampZ z))) ∧ w = w' := by
  go_enter Tryz.func201, Tryz.ntmps201
  go_wp2
  go_ret
  exact ⟨rfl, rfl⟩

theorem place_any (a b : Int) (w : World) :
    Calls Tryz.prog 153 #[.int .i64 a, .int .i64 b] w fun e w' => e = .returned (.complex .f64 (floatOfInt .f64 (clampZ a)) (floatOfInt .f64 (clampZ b))) ∧ w = w' := by
  go_enter Tryz.func153, Tryz.ntmps153
  go_wp2_with fail
  refine (bounded_any a _).mono ?_
  rintro e w' ⟨rfl, rfl⟩
  go_wp2_with fail
  refine (bounded_any b _).mono ?_
  rintro e w' ⟨rfl, rfl⟩
  go_wp2_with fail
  go_ret
  exact ⟨rfl, rfl⟩

theorem blanks_any (a b : Int) (w : World) (h1 : 0 ≤ a) (h2 : a ≤ 10000) (h3 : 0 ≤ b) (h4 : b ≤ 10000) :
    Calls Tryz.prog 152 #[.complex .f64 (floatOfInt .f64 a) (floatOfInt .f64 b)] w fun e w' => e = .returned (.string (blankS (b - a).toNat)) ∧ Below w.heap.size w w' := by
  obtain ⟨r, e1, e2⟩ := float_diff b a h3 h4 h1 h2
  have hsub := run_float_arith (P := Tryz.prog) w .sub 283 .f64 _ _ r e1
  have hcon := run_convert_float_int (P := Tryz.prog) w 283 3 .f64 .i64 r (b - a) (by rw [Tryz.underlying283]; rfl) Tryz.underlying3 e2
  clear e1 e2
  generalize floatOfInt .f64 a = x at *
  generalize floatOfInt .f64 b = y at *
  go_enter Tryz.func152, Tryz.ntmps152
  go_wp2_with fail
  have hc : max (b - a) 0 = (((b - a).toNat : Nat) : Int) := by omega
  rw [hc]
  refine (Tryz.strings_Repeat ⟨#[32]⟩ (b - a).toNat w (by omega) (by show 1 * _ ≤ _; omega)).mono ?_
  rintro e w' ⟨rfl, hb⟩
  have HB := Lib.hid hb
  clear hb hsub hcon hc
  rw [show (⟨#[32]⟩ : ByteArray).data.toList = [32] from rfl, repeat_blank]
  go_wp2_with fail
  go_ret
  exact ⟨rfl, HB.out⟩

theorem ret_str {a b : ByteArray} (h : a = b) : Ending.returned (.string a) = .returned (.string b) := by rw [h]

theorem add_blank (P : Program) (t : ByteArray) (a b : Int) (ht : t.size ≤ 100) : ∃ B : ByteArray, B = blankS (lackN a b) ∧ B.size ≤ 10000 ∧ (∀ w : World, (Op.stringOp .add t B).run P w = .ok (.string (t ++ B)) w) ∧ (∀ w : World, (Op.stringOp .add B t).run P w = .ok (.string (B ++ t)) w) := by
  have hl := lack_le a b
  have hz := blankS_size (lackN a b)
  exact ⟨_, rfl, by omega, fun w => run_string_add_sum w _ _ (by omega), fun w => run_string_add_sum w _ _ (by omega)⟩

theorem left_any (t : ByteArray) (a b : Int) (w : World) (ht : t.size ≤ 100) :
    Calls Tryz.prog 100 #[.string t, .int .i64 a, .int .i64 b] w fun e w' => e = .returned (.string (t ++ blankS (lackN a b))) ∧ Below w.heap.size w w' := by
  have ca := clamp_bd a; have cb := clamp_bd b
  obtain ⟨B, hB, _, hadd, _⟩ := add_blank Tryz.prog t a b ht
  have HA := Lib.hid hadd
  have EB := Lib.hid hB
  clear hadd hB
  go_enter Tryz.func100, Tryz.ntmps100
  go_wp2_with fail
  refine (place_any a b _).mono ?_
  rintro e w' ⟨rfl, rfl⟩
  go_wp2_with fail
  refine (blanks_any _ _ _ ca.1 ca.2 cb.1 cb.2).mono ?_
  rintro e w' ⟨rfl, hb⟩
  have HB := Lib.hid hb
  clear hb
  have hadd := HA.out w'
  rw [show blankS (clampZ b - clampZ a).toNat = B from EB.out.symm]
  go_wp2_with fail
  go_ret
  exact ⟨ret_str (by rw [EB.out]), HB.out⟩

theorem refBlanks_any (n : Nat) (w : World) (hn : n ≤ 10000) :
    Calls Tryz.prog 52 #[.int .i64 n] w fun e w' => e = .returned (.string (blankS n)) ∧ w = w' := by
  go_enter Tryz.func52, Tryz.ntmps52
  go_wp2
  go_loop [3, 4] (fun r i => ∃ k : Nat, k ≤ n ∧ i = .int .i64 k ∧ r = .string (blankS k)) (fun _ i => n - (intOf i).toNat)
  case atStart => exact ⟨0, Nat.zero_le _, rfl, rfl⟩
  case round =>
    obtain ⟨k, hk, rfl, rfl⟩ := hrel
    by_cases hlt : k < n
    · have hadd := run_string_add_sum (P := Tryz.prog) w (blankS k) ⟨#[32]⟩ (by rw [blankS_size]; show k + 1 ≤ _; omega)
      rw [blankS_succ] at hadd
      generalize blankS k = B at *
      generalize hC : blankS (k + 1) = C at *
      have HC := Lib.hid hC
      clear hC
      go_wp2
      go_round
      case rel => exact ⟨k + 1, by omega, by go_num, by rw [HC.out]⟩
      case measure => simp [intOf]; omega
    · obtain rfl : k = n := by omega
      go_wp2
      go_ret
      exact ⟨rfl, rfl⟩
end Go.Proofs.YtknfhphhcnbndaaGreatDoor.N

namespace Go.Proofs.YtknfhphhcnbndaaGreatDoor.N
open Go.RowKit
theorem right_any (t : ByteArray) (a b : Int) (w : World) (ht : t.size ≤ 100) :
    Calls Tryz.prog 101 #[.string t, .int .i64 a, .int .i64 b] w fun e w' => e = .returned (.string (blankS (lackN a b) ++ t)) ∧ Below w.heap.size w w' := by
  have ca := clamp_bd a; have cb := clamp_bd b
  obtain ⟨B, hB, _, _, hadd⟩ := add_blank Tryz.prog t a b ht
  have HA := Lib.hid hadd
  have EB := Lib.hid hB
  clear hadd hB
  go_enter Tryz.func101, Tryz.ntmps101
  go_wp2_with fail
  refine (place_any a b _).mono ?_
  rintro e w' ⟨rfl, rfl⟩
  go_wp2_with fail
  refine (blanks_any _ _ _ ca.1 ca.2 cb.1 cb.2).mono ?_
  rintro e w' ⟨rfl, hb⟩
  have HB := Lib.hid hb
  clear hb
  have hadd := HA.out w'
  rw [show blankS (clampZ b - clampZ a).toNat = B from EB.out.symm]
  go_wp2_with fail
  go_ret
  exact ⟨ret_str (by rw [EB.out]), HB.out⟩


end Go.Proofs.YtknfhphhcnbndaaGreatDoor.N
