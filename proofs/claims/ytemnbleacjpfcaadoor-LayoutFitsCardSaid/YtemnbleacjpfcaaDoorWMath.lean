/-
  Plain facts on widths: the table's search, the width of the characters from a place on, where a text is cut, and that a text cut between characters is as wide as its parts. Conditions: none.
-/
import Derived.Lib.RuneCountTail
namespace Go.Proofs.YtemnbleacjpfcaaDoor.W

/-- The rows of characters whose width isn't 1. -/
def rowsL : List (Int × Int × Int) := [(0, 31, 0), (127, 159, 0), (768, 879, 0), (4352, 4447, 2), (8203, 8207, 0), (11904, 12350, 2), (12353, 13311, 2), (13312, 19903, 2), (19968, 42191, 2), (44032, 55203, 2), (63744, 64255, 2), (65024, 65039, 0), (65072, 65135, 2), (65280, 65376, 2), (65504, 65510, 2), (127744, 128591, 2), (131072, 262141, 2)]
def look : List (Int × Int × Int) → Int → Int
  | [], _ => 1
  | (a, b, c) :: t, r => if r < a then 1 else if r ≤ b then c else look t r
def runeW (r : Int) : Int := look rowsL r
theorem look_nil {r : Int} : look [] r = 1 := rfl
theorem look_lt {a b c r : Int} {t : List (Int × Int × Int)} (h : r < a) : look ((a, b, c) :: t) r = 1 := by simp [look, h]
theorem look_in {a b c r : Int} {t : List (Int × Int × Int)} (h : ¬ r < a) (k : r ≤ b) : look ((a, b, c) :: t) r = c := by simp [look, h, k]
theorem look_on {a b c r : Int} {t : List (Int × Int × Int)} (h : ¬ r < a) (k : ¬ r ≤ b) : look ((a, b, c) :: t) r = look t r := by simp [look, h, k]
theorem look_by {P : Int → Prop} {a b c r : Int} {t : List (Int × Int × Int)} (h1 : r < a → P 1) (h2 : a ≤ r → r ≤ b → P c) (h3 : b < r → a ≤ r → P (look t r)) : P (look ((a, b, c) :: t) r) := by
  by_cases h : r < a
  · rw [look_lt h]; exact h1 h
  · by_cases k : r ≤ b
    · rw [look_in h k]; exact h2 (by omega) k
    · rw [look_on h k]; exact h3 (by omega) (by omega)

def zerosL : List (Int × Int) := [(0, 31), (127, 159), (768, 879), (8203, 8207), (65024, 65039)]
def twosL : List (Int × Int) := [(4352, 4447), (11904, 12350), (12353, 13311), (13312, 19903), (19968, 42191), (44032, 55203), (63744, 64255), (65072, 65135), (65280, 65376), (65504, 65510), (127744, 128591), (131072, 262141)]
def inP : List (Int × Int) → Int → Bool
  | [], _ => false
  | (a, b) :: t, r => if a ≤ r ∧ r ≤ b then true else inP t r
def refW (r : Int) : Int := if inP zerosL r then 0 else if inP twosL r then 2 else 1

def zeroP (r : Int) : Prop := (0 ≤ r ∧ r ≤ 31) ∨ (127 ≤ r ∧ r ≤ 159) ∨ (768 ≤ r ∧ r ≤ 879) ∨ (8203 ≤ r ∧ r ≤ 8207) ∨ (65024 ≤ r ∧ r ≤ 65039)
def twoP (r : Int) : Prop := (4352 ≤ r ∧ r ≤ 4447) ∨ (11904 ≤ r ∧ r ≤ 12350) ∨ (12353 ≤ r ∧ r ≤ 13311) ∨ (13312 ≤ r ∧ r ≤ 19903) ∨ (19968 ≤ r ∧ r ≤ 42191) ∨ (44032 ≤ r ∧ r ≤ 55203) ∨ (63744 ≤ r ∧ r ≤ 64255) ∨ (65072 ≤ r ∧ r ≤ 65135) ∨ (65280 ≤ r ∧ r ≤ 65376) ∨ (65504 ≤ r ∧ r ≤ 65510) ∨ (127744 ≤ r ∧ r ≤ 128591) ∨ (131072 ≤ r ∧ r ≤ 262141)

theorem inP_iff : ∀ (l : List (Int × Int)) (r : Int), inP l r = true ↔ ∃ p ∈ l, p.1 ≤ r ∧ r ≤ p.2
  | [], r => by simp [inP]
  | (a, b) :: t, r => by
    unfold inP
    by_cases h : a ≤ r ∧ r ≤ b
    · rw [if_pos h]; simp [h]
    · rw [if_neg h, inP_iff t r]; simp [h]
theorem inP_zeros (r : Int) : inP zerosL r = true ↔ zeroP r := by rw [inP_iff]; simp [zerosL, zeroP]
theorem inP_twos (r : Int) : inP twosL r = true ↔ twoP r := by rw [inP_iff]; simp [twosL, twoP]

theorem refW_zero (r : Int) (h : zeroP r) : refW r = 0 := by rw [refW, if_pos ((inP_zeros r).2 h)]
theorem refW_two (r : Int) (h0 : ¬ zeroP r) (h : twoP r) : refW r = 2 := by
  rw [refW, if_neg (fun k => h0 ((inP_zeros r).1 k)), if_pos ((inP_twos r).2 h)]
theorem refW_one (r : Int) (h0 : ¬ zeroP r) (h : ¬ twoP r) : refW r = 1 := by
  rw [refW, if_neg (fun k => h0 ((inP_zeros r).1 k)), if_neg (fun k => h ((inP_twos r).1 k))]

set_option maxRecDepth 100000 in
set_option maxHeartbeats 2000000 in
theorem refW_eq (r : Int) : refW r = runeW r := by
  unfold runeW rowsL
  repeat' (refine look_by (P := fun z => refW r = z) ?_ ?_ ?_ <;> intros)
  all_goals (try rw [look_nil])
  all_goals first
    | (refine refW_zero r ?_; unfold zeroP; omega)
    | (refine refW_two r ?_ ?_; unfold zeroP; omega; unfold twoP; omega)
    | (refine refW_one r ?_ ?_; unfold zeroP; omega; unfold twoP; omega)

theorem runeW_bd (r : Int) : 0 ≤ runeW r ∧ runeW r ≤ 2 := by
  rw [← refW_eq]
  unfold refW
  repeat' split
  all_goals omega

/-! ### the width of the characters from a place on -/
def wdF (s : ByteArray) : Nat → Nat → Int
  | 0, _ => 0
  | f + 1, pos => if pos < s.size then runeW (Utf8.decode s pos).1 + wdF s f (pos + (Utf8.decode s pos).2) else 0
def wd (s : ByteArray) (pos : Nat) : Int := wdF s (s.size - pos) pos

theorem wdF_end (s : ByteArray) (f pos : Nat) (h : ¬ pos < s.size) : wdF s f pos = 0 := by
  cases f <;> simp [wdF, h]
theorem wdF_enough (s : ByteArray) : ∀ f g pos, s.size - pos ≤ f → s.size - pos ≤ g → wdF s f pos = wdF s g pos
  | 0, g, pos, hf, _ => by rw [wdF_end s g pos (by omega)]; rfl
  | f + 1, 0, pos, _, hg => by rw [wdF_end s (f + 1) pos (by omega)]; rfl
  | f + 1, g + 1, pos, hf, hg => by
    unfold wdF
    by_cases h : pos < s.size
    · have hw := Lib.decode_width_pos s pos h
      rw [if_pos h, if_pos h, wdF_enough s f g _ (by omega) (by omega)]
    · rw [if_neg h, if_neg h]
theorem wd_end (s : ByteArray) (pos : Nat) (h : ¬ pos < s.size) : wd s pos = 0 := wdF_end s _ pos h
theorem wd_step (s : ByteArray) (pos : Nat) (h : pos < s.size) : wd s pos = runeW (Utf8.decode s pos).1 + wd s (pos + (Utf8.decode s pos).2) := by
  have hw := Lib.decode_width_pos s pos h
  have e : s.size - pos = (s.size - pos - 1) + 1 := by omega
  rw [wd, e, wdF, if_pos h, wd, wdF_enough s (s.size - pos - 1) (s.size - (pos + (Utf8.decode s pos).2)) _ (by omega) (by omega)]
theorem wdF_bd (s : ByteArray) : ∀ f pos, 0 ≤ wdF s f pos ∧ wdF s f pos ≤ 2 * ((s.size - pos : Nat) : Int)
  | 0, pos => by unfold wdF; omega
  | f + 1, pos => by
    unfold wdF
    split
    · rename_i h
      have hw := Lib.decode_width_pos s pos h
      have := wdF_bd s f (pos + (Utf8.decode s pos).2)
      have := runeW_bd (Utf8.decode s pos).1
      omega
    · omega
theorem wd_bd (s : ByteArray) (pos : Nat) : 0 ≤ wd s pos ∧ wd s pos ≤ 2 * ((s.size - pos : Nat) : Int) := wdF_bd s _ pos

/-! ### where a text is cut -/
def cutF (s : ByteArray) (most : Int) : Nat → Nat → Int → Nat
  | 0, _, _ => s.size
  | f + 1, pos, acc => if pos < s.size then (if most < acc + runeW (Utf8.decode s pos).1 then pos else cutF s most f (pos + (Utf8.decode s pos).2) (acc + runeW (Utf8.decode s pos).1)) else s.size
def cutAt (s : ByteArray) (most : Int) (pos : Nat) (acc : Int) : Nat := cutF s most (s.size - pos) pos acc
/-- The place at which the text is cut. -/
def cutP (s : ByteArray) (most : Int) : Nat := cutAt s most 0 0

theorem cutF_end (s : ByteArray) (most : Int) (f pos : Nat) (acc : Int) (h : ¬ pos < s.size) : cutF s most f pos acc = s.size := by
  cases f <;> simp [cutF, h]
theorem cutF_enough (s : ByteArray) (most : Int) : ∀ f g pos acc, s.size - pos ≤ f → s.size - pos ≤ g → cutF s most f pos acc = cutF s most g pos acc
  | 0, g, pos, acc, hf, _ => by rw [cutF_end s most g pos acc (by omega)]; rfl
  | f + 1, 0, pos, acc, _, hg => by rw [cutF_end s most (f + 1) pos acc (by omega)]; rfl
  | f + 1, g + 1, pos, acc, hf, hg => by
    unfold cutF
    by_cases h : pos < s.size
    · have hw := Lib.decode_width_pos s pos h
      rw [if_pos h, if_pos h, cutF_enough s most f g _ _ (by omega) (by omega)]
    · rw [if_neg h, if_neg h]
theorem cutAt_end (s : ByteArray) (most : Int) (pos : Nat) (acc : Int) (h : ¬ pos < s.size) : cutAt s most pos acc = s.size := cutF_end s most _ pos acc h
theorem cutAt_stop (s : ByteArray) (most : Int) (pos : Nat) (acc : Int) (h : pos < s.size) (hm : most < acc + runeW (Utf8.decode s pos).1) : cutAt s most pos acc = pos := by
  have e : s.size - pos = (s.size - pos - 1) + 1 := by omega
  rw [cutAt, e, cutF, if_pos h, if_pos hm]
theorem cutAt_step (s : ByteArray) (most : Int) (pos : Nat) (acc : Int) (h : pos < s.size) (hm : ¬ most < acc + runeW (Utf8.decode s pos).1) : cutAt s most pos acc = cutAt s most (pos + (Utf8.decode s pos).2) (acc + runeW (Utf8.decode s pos).1) := by
  have hw := Lib.decode_width_pos s pos h
  have e : s.size - pos = (s.size - pos - 1) + 1 := by omega
  rw [cutAt, e, cutF, if_pos h, if_neg hm, cutAt, cutF_enough s most (s.size - pos - 1) (s.size - (pos + (Utf8.decode s pos).2)) _ _ (by omega) (by omega)]

/-! ### characters of a beginning and of what is left -/
set_option maxRecDepth 100000 in
set_option maxHeartbeats 2000000 in
theorem decodeN_len (n b0 b1 b2 b3 : Nat) (hn : 1 ≤ n) : (Lib.decodeN n b0 b1 b2 b3).2 ≤ n := by
  unfold Lib.decodeN
  repeat' split
  all_goals (dsimp only; omega)
theorem decode_len (s : ByteArray) (pos : Nat) (h : pos < s.size) : pos + (Utf8.decode s pos).2 ≤ s.size := by
  have := decodeN_len (s.size - pos) (s.get! pos).toNat (s.get! (pos + 1)).toNat (s.get! (pos + 2)).toNat (s.get! (pos + 3)).toNat (by omega)
  rw [Lib.decode_at]
  omega

set_option maxRecDepth 100000 in
set_option maxHeartbeats 4000000 in
/-- With fewer bytes behind it, but all of its own, a character is the same. -/
theorem decodeN_less (n m b0 b1 b2 b3 c1 c2 c3 : Nat) (hm : 1 ≤ m) (hmn : m ≤ n) (hw : (Lib.decodeN n b0 b1 b2 b3).2 ≤ m)
    (e1 : 1 < m → c1 = b1) (e2 : 2 < m → c2 = b2) (e3 : 3 < m → c3 = b3) : Lib.decodeN m b0 c1 c2 c3 = Lib.decodeN n b0 b1 b2 b3 := by
  by_cases h1 : 1 < m
  · obtain rfl := e1 h1
    by_cases h2 : 2 < m
    · obtain rfl := e2 h2
      by_cases h3 : 3 < m
      · obtain rfl := e3 h3
        unfold Lib.decodeN at hw ⊢
        simp only [show 1 < n by omega, show 2 < n by omega, show 3 < n by omega, h1, h2, h3]
      · obtain rfl : m = 3 := by omega
        unfold Lib.decodeN at hw ⊢
        repeat' split at hw
        all_goals (dsimp only at hw; repeat' split)
        all_goals first | rfl | (exfalso; omega)
    · obtain rfl : m = 2 := by omega
      unfold Lib.decodeN at hw ⊢
      repeat' split at hw
      all_goals (dsimp only at hw; repeat' split)
      all_goals first | rfl | (exfalso; omega)
  · obtain rfl : m = 1 := by omega
    unfold Lib.decodeN at hw ⊢
    repeat' split at hw
    all_goals (dsimp only at hw; repeat' split)
    all_goals first | rfl | (exfalso; omega)

theorem head_size (s : ByteArray) (p : Nat) (hp : p ≤ s.size) : (s.extract 0 p).size = p := by
  rw [Lib.size_eq, Lib.extract_data, List.length_take, List.length_drop, ← Lib.size_eq]
  omega
theorem head_get! (s : ByteArray) (p j : Nat) (hj : j < p) : (s.extract 0 p).get! j = s.get! j := by
  rw [← Lib.getD_get!', ← Lib.getD_get!', Lib.extract_data]
  simp [List.getD, hj]
theorem head_decode (s : ByteArray) (p pos : Nat) (hp : p ≤ s.size) (hpos : pos < p) (hw : pos + (Utf8.decode s pos).2 ≤ p) : Utf8.decode (s.extract 0 p) pos = Utf8.decode s pos := by
  rw [Lib.decode_at] at hw
  rw [Lib.decode_at, Lib.decode_at, head_size s p hp, head_get! s p pos hpos]
  exact decodeN_less (s.size - pos) (p - pos) _ _ _ _ _ _ _ (by omega) (by omega) (by omega)
    (fun h => by rw [head_get! s p (pos + 1) (by omega)]) (fun h => by rw [head_get! s p (pos + 2) (by omega)]) (fun h => by rw [head_get! s p (pos + 3) (by omega)])

/-- From a place the characters lead to another. -/
inductive Leads (s : ByteArray) (p : Nat) : Nat → Prop
  | here : Leads s p p
  | step (q : Nat) : q < s.size → Leads s p (q + (Utf8.decode s q).2) → Leads s p q
theorem Leads.le {s : ByteArray} {p q : Nat} (h : Leads s p q) : q ≤ p := by
  induction h with
  | here => exact Nat.le_refl _
  | step q _ _ ih => omega

theorem wd_tailF (s : ByteArray) (n : Nat) : ∀ f q, wdF (s.extract n s.size) f q = wdF s f (n + q)
  | 0, _ => rfl
  | f + 1, q => by
    unfold wdF
    rw [Lib.tail_size, Lib.tail_decode, wd_tailF s n f]
    by_cases h : n + q < s.size
    · rw [if_pos (by omega), if_pos h, Nat.add_assoc]
    · rw [if_neg (by omega), if_neg h]
theorem wd_tail (s : ByteArray) (n : Nat) : wd (s.extract n s.size) 0 = wd s n := by
  rw [wd, wd_tailF, Lib.tail_size, wd]
  rfl
theorem wd_head {s : ByteArray} {p q : Nat} (hp : p ≤ s.size) (h : Leads s p q) : wd (s.extract 0 p) q + wd s p = wd s q := by
  induction h with
  | here => rw [wd_end (s.extract 0 p) p (by rw [head_size s p hp]; omega)]; omega
  | step q hq hl ih =>
    have hle := hl.le
    have hw := Lib.decode_width_pos s q hq
    rw [wd_step s q hq, wd_step (s.extract 0 p) q (by rw [head_size s p hp]; omega), head_decode s p q hp (by omega) hle]
    omega

/-- What the search for the place keeps to. -/
structure CutOk (s : ByteArray) (most : Int) (p : Nat) : Prop where
  le : p ≤ s.size
  fits : p = 0 ∨ wd s 0 - wd s p ≤ most
  full : p = s.size ∨ most < wd s 0
theorem cutF_ok (s : ByteArray) (most : Int) : ∀ f pos acc, s.size - pos ≤ f → pos ≤ s.size → acc = wd s 0 - wd s pos → (pos = 0 ∨ acc ≤ most) → CutOk s most (cutF s most f pos acc) ∧ Leads s (cutF s most f pos acc) pos
  | 0, pos, acc, hf, hp, hacc, hm => by
    obtain rfl : pos = s.size := by omega
    exact ⟨⟨Nat.le_refl _, by rw [cutF, ← hacc]; exact hm, .inl rfl⟩, .here⟩
  | f + 1, pos, acc, hf, hp, hacc, hm => by
    unfold cutF
    by_cases h : pos < s.size
    · have hw := Lib.decode_width_pos s pos h
      have hl := decode_len s pos h
      have hs := wd_step s pos h
      have hb := wd_bd s (pos + (Utf8.decode s pos).2)
      rw [if_pos h]
      by_cases hmm : most < acc + runeW (Utf8.decode s pos).1
      · rw [if_pos hmm]
        exact ⟨⟨hp, by omega, .inr (by omega)⟩, .here⟩
      · rw [if_neg hmm]
        obtain ⟨a, b⟩ := cutF_ok s most f (pos + (Utf8.decode s pos).2) (acc + runeW (Utf8.decode s pos).1) (by omega) hl (by omega) (.inr (by omega))
        exact ⟨a, .step pos h b⟩
    · rw [if_neg h]
      obtain rfl : pos = s.size := by omega
      exact ⟨⟨Nat.le_refl _, by omega, .inl rfl⟩, .here⟩
theorem cutP_ok (s : ByteArray) (most : Int) : CutOk s most (cutP s most) ∧ Leads s (cutP s most) 0 :=
  cutF_ok s most _ 0 0 (Nat.le_refl _) (Nat.zero_le _) (by omega) (.inl rfl)

theorem parts (s : ByteArray) (most : Int) : wd (s.extract 0 (cutP s most)) 0 + wd (s.extract (cutP s most) s.size) 0 = wd s 0 := by
  obtain ⟨a, b⟩ := cutP_ok s most
  rw [wd_tail, wd_head a.le b]
end Go.Proofs.YtemnbleacjpfcaaDoor.W
