/-
  A name's tokens, by places. Conditions: each fact's own.
-/
import Derived.Test.YteeddednonmglaaDoorORefA
set_option linter.unusedVariables false
namespace Go.Proofs.YteeddednonmglaaDoor
open Go.RowKit

theorem toks_nil : toks [] = [] := rfl
theorem toks_cons (b : UInt8) (r : List UInt8) : toks (b :: r) = if digB b = true then numT ((b :: r).takeWhile digB) :: toks ((b :: r).dropWhile digB) else [126, b] :: toks r := by
  unfold toks
  rw [List.length_cons, tokGo]
  by_cases hb : digB b = true
  · rw [if_pos hb, if_pos hb]
    have hd : ((b :: r).dropWhile digB).length ≤ r.length := by
      rw [List.dropWhile_cons, if_pos hb]
      exact (List.dropWhile_sublist _).length_le
    rw [tokGo_more r.length ((b :: r).dropWhile digB).length _ hd (Nat.le_refl _)]
  · rw [if_neg hb, if_neg hb]
theorem span_take {p : UInt8 → Bool} : ∀ (D : List UInt8) (n : Nat), n ≤ D.length → (∀ j x, j < n → D[j]? = some x → p x = true) → (∀ x, D[n]? = some x → p x = false) → D.takeWhile p = D.take n ∧ D.dropWhile p = D.drop n
  | [], n, hn, _, _ => by
    have : n = 0 := by simpa using hn
    subst this
    exact ⟨rfl, rfl⟩
  | b :: r, 0, _, _, h2 => by
    have hb := h2 b rfl
    rw [List.takeWhile_cons, List.dropWhile_cons, hb]
    exact ⟨rfl, rfl⟩
  | b :: r, n + 1, hn, h1, h2 => by
    have hb := h1 0 b (by omega) rfl
    have ih := span_take r n (by simpa using hn) (fun j x hj hx => h1 (j + 1) x (by omega) (by simpa using hx)) (fun x hx => h2 x (by simpa using hx))
    rw [List.takeWhile_cons, List.dropWhile_cons, hb]
    exact ⟨by rw [if_pos rfl, ih.1]; rfl, by rw [if_pos rfl, ih.2]; rfl⟩
/-- Between two places of a text. -/
def seg (l : List UInt8) (a b : Nat) : List UInt8 := (l.drop a).take (b - a)
theorem seg_len {l : List UInt8} {a b : Nat} (hab : a ≤ b) (hb : b ≤ l.length) : (seg l a b).length = b - a := by
  unfold seg
  rw [List.length_take, List.length_drop]
  omega
theorem seg_at {l : List UInt8} {a b j : Nat} (hj : j < b - a) : (seg l a b)[j]? = l[a + j]? := by
  unfold seg
  rw [List.getElem?_take, if_pos hj, List.getElem?_drop]
theorem seg_drop {l : List UInt8} {a b c : Nat} (hab : a ≤ b) : (seg l a c).drop (b - a) = seg l b c := by
  unfold seg
  rw [List.drop_take, List.drop_drop]
  congr 1
  · omega
  · congr 1; omega
theorem ext_seg (s : ByteArray) (a b : Nat) (hab : a ≤ b) (hb : b ≤ s.size) : s.extract a b = mkB (seg s.data.toList a b) := by
  apply ByteArray.ext
  unfold mkB seg
  rw [ByteArray.data_extract]
  apply Array.ext'
  simp
/-- A number's token, by its three places: where it begins, where its noughts end, where it ends. -/
theorem tok_num {l : List UInt8} {i z k : Nat} {b : UInt8} (hb : l[i]? = some b) (hd : digB b = true) (hiz : i ≤ z) (hzk : z ≤ k) (hk : k ≤ l.length) (h1 : ∀ j x, i ≤ j → j < k → l[j]? = some x → digB x = true) (h2 : ∀ x, l[k]? = some x → digB x = false)
    (h3 : ∀ j x, i ≤ j → j < z → l[j]? = some x → x = 48) (h4 : z < k → ∀ x, l[z]? = some x → x ≠ 48) :
    toks (l.drop i) = (33 :: UInt8.ofNat ((k - z) / 256) :: UInt8.ofNat ((k - z) % 256) :: seg l z k) :: toks (l.drop k) := by
  have hi : i < l.length := (List.getElem?_eq_some_iff.1 hb).1
  have hs := span_take (p := digB) (l.drop i) (k - i) (by rw [List.length_drop]; omega)
    (fun j x hj hx => h1 (i + j) x (by omega) (by omega) (by rwa [List.getElem?_drop] at hx))
    (fun x hx => h2 x (by rw [List.getElem?_drop] at hx; rwa [show i + (k - i) = k by omega] at hx))
  have hz := span_take (p := (· == 48)) (seg l i k) (z - i) (by rw [seg_len (by omega) hk]; omega)
    (fun j x hj hx => by
      rw [seg_at (by omega)] at hx
      exact beq_iff_eq.2 (h3 (i + j) x (by omega) (by omega) hx))
    (fun x hx => by
      have hlt : z - i < (seg l i k).length := (List.getElem?_eq_some_iff.1 hx).1
      rw [seg_len (by omega) hk] at hlt
      rw [seg_at (by omega), show i + (z - i) = z by omega] at hx
      exact beq_eq_false_iff_ne.2 (h4 (by omega) x hx))
  have e1 : (l.drop i).takeWhile digB = seg l i k := hs.1
  have e2 : (l.drop i).dropWhile digB = l.drop k := by rw [hs.2, List.drop_drop]; congr 1; omega
  have hc := drop_at hb
  have ht := toks_cons b (l.drop (i + 1))
  rw [← hc, if_pos hd, e1, e2] at ht
  rw [ht]
  unfold numT
  rw [hz.2, seg_drop hiz, seg_len hzk hk]
theorem tok_byte {l : List UInt8} {i : Nat} {b : UInt8} (hb : l[i]? = some b) (hd : digB b = false) : toks (l.drop i) = [126, b] :: toks (l.drop (i + 1)) := by
  rw [drop_at hb, toks_cons, if_neg (by rw [hd]; decide)]

theorem tokGo_len : ∀ (n : Nat) (l : List UInt8), (tokGo n l).length ≤ l.length ∧ ∀ t ∈ tokGo n l, t.length ≤ l.length + 3
  | 0, l => ⟨Nat.zero_le _, fun t h => by cases h⟩
  | n + 1, [] => ⟨Nat.le_refl _, fun t h => by cases h⟩
  | n + 1, b :: r => by
    rw [tokGo]
    by_cases hb : digB b = true
    · rw [if_pos hb]
      have hd : ((b :: r).dropWhile digB).length ≤ r.length := by
        rw [List.dropWhile_cons, if_pos hb]
        exact (List.dropWhile_sublist _).length_le
      obtain ⟨h1, h2⟩ := tokGo_len n ((b :: r).dropWhile digB)
      refine ⟨by rw [List.length_cons, List.length_cons]; omega, fun t ht => ?_⟩
      rcases List.mem_cons.1 ht with q | q
      · rw [q]
        unfold numT
        have h3 := (List.dropWhile_sublist (l := (b :: r).takeWhile digB) (· == 48)).length_le
        have h4 := (List.takeWhile_sublist (l := b :: r) digB).length_le
        simp only [List.length_cons] at h3 h4 ⊢
        omega
      · have := h2 t q
        rw [List.length_cons]
        omega
    · rw [if_neg hb]
      obtain ⟨h1, h2⟩ := tokGo_len n r
      refine ⟨by rw [List.length_cons, List.length_cons]; omega, fun t ht => ?_⟩
      rcases List.mem_cons.1 ht with q | q
      · rw [q]
        show 2 ≤ _
        omega
      · have := h2 t q
        rw [List.length_cons]
        omega
theorem toks_len (l : List UInt8) : (toks l).length ≤ l.length ∧ ∀ t ∈ toks l, t.length ≤ l.length + 3 := tokGo_len _ l
theorem lex_step {α : Type} {c : α → α → Int} {A B : List α} {k : Nat} {x y : α} (hx : A[k]? = some x) (hy : B[k]? = some y) : lexC c (A.drop k) (B.drop k) = if c x y = 0 then lexC c (A.drop (k + 1)) (B.drop (k + 1)) else c x y := by
  rw [drop_at hx, drop_at hy, lexC]
theorem lex_end {α : Type} {c : α → α → Int} {A B : List α} {k : Nat} (h : A.length ≤ k ∨ B.length ≤ k) (ha : k ≤ A.length) (hb : k ≤ B.length) : lexC c (A.drop k) (B.drop k) = if A.length < B.length then -1 else if B.length < A.length then 1 else 0 := by
  rcases h with h | h
  · rw [List.drop_of_length_le h]
    by_cases q : A.length < B.length
    · rw [if_pos q]
      obtain ⟨y, hy⟩ : ∃ y, B[k]? = some y := ⟨_, List.getElem?_eq_getElem (by omega)⟩
      rw [drop_at hy]
      rfl
    · rw [if_neg q, if_neg (by omega), List.drop_of_length_le (by omega)]
      rfl
  · rw [List.drop_of_length_le h]
    by_cases q : B.length < A.length
    · rw [if_neg (by omega), if_pos q]
      obtain ⟨y, hy⟩ : ∃ y, A[k]? = some y := ⟨_, List.getElem?_eq_getElem (by omega)⟩
      rw [drop_at hy]
      rfl
    · rw [if_neg (by omega), if_neg q, List.drop_of_length_le (by omega)]
      rfl
end Go.Proofs.YteeddednonmglaaDoor
