/-
  What the reference's Less, Ext and numbers return. Conditions: texts of at most 1000000 bytes.
  A name's tokens, by places. Conditions: each fact's own.
  The program's way to compare names, in plain lists: bytes, extensions, tokens. Conditions: each fact's own.
-/
import Derived.Test.YtpikndeefiediaaGreatDoorKOBase
import Derived.Lib.Bytealg
import Derived.Lib.TrimByte
import Derived.Lib.LastIndexByte
set_option linter.unusedVariables false
namespace Go.Proofs.YtpikndeefiediaaGreatDoor.O
open Go.Proofs.YtpikndeefiediaaGreatDoor.B
open Go.RowKit

def mkB (l : List UInt8) : ByteArray := ⟨l.toArray⟩
theorem mkB_list (l : List UInt8) : (mkB l).data.toList = l := by unfold mkB; simp
theorem ext_tail (s : ByteArray) (k : Nat) : s.extract k s.size = mkB (s.data.toList.drop k) := by
  apply ByteArray.ext
  unfold mkB
  rw [ByteArray.data_extract]
  apply Array.ext'
  simp
  exact List.take_of_length_le (by simp)
end Go.Proofs.YtpikndeefiediaaGreatDoor.O

namespace Go.Proofs.YtpikndeefiediaaGreatDoor.O
open Go.Proofs.YtpikndeefiediaaGreatDoor.B
open Go.RowKit

theorem toks_nil : toks [] = [] := rfl
theorem toks_cons (b : UInt8) (r : List UInt8) : toks (b :: r) = if digB b = true then numT ((b :: r).takeWhile digB) :: toks ((b :: r).dropWhile digB) else [126, b] :: toks r := by
  unfold toks
  rw [List.length_cons, tokGo]
  by_cases hb : digB b = true
  · rw [if_pos hb, if_pos hb]
    have hd : ((b :: r).dropWhile digB).length ≤ r.length := by
      rw [List.dropWhile_cons, if_pos hb]
      exact (List.dropWhile_sublist _).length_le
    rw [tokGo_more r.length ((b :: r).dropWhile digB).length _ hd (Nat.le_refl _)]
  · rw [if_neg hb, if_neg hb]
theorem span_take {p : UInt8 → Bool} : ∀ (D : List UInt8) (n : Nat), n ≤ D.length → (∀ j x, j < n → D[j]? = some x → p x = true) → (∀ x, D[n]? = some x → p x = false) → D.takeWhile p = D.take n ∧ D.dropWhile p = D.drop n
  | [], n, hn, _, _ => by
    have : n = 0 := by simpa using hn
    subst this
    exact ⟨rfl, rfl⟩
  | b :: r, 0, _, _, h2 => by
    have hb := h2 b rfl
    rw [List.takeWhile_cons, List.dropWhile_cons, hb]
    exact ⟨rfl, rfl⟩
  | b :: r, n + 1, hn, h1, h2 => by
    have hb := h1 0 b (by omega) rfl
    have ih := span_take r n (by simpa using hn) (fun j x hj hx => h1 (j + 1) x (by omega) (by simpa using hx)) (fun x hx => h2 x (by simpa using hx))
    rw [List.takeWhile_cons, List.dropWhile_cons, hb]
    exact ⟨by rw [if_pos rfl, ih.1]; rfl, by rw [if_pos rfl, ih.2]; rfl⟩
/-- Between two places of a text. -/
def seg (l : List UInt8) (a b : Nat) : List UInt8 := (l.drop a).take (b - a)
theorem ext_seg (s : ByteArray) (a b : Nat) (hab : a ≤ b) (hb : b ≤ s.size) : s.extract a b = mkB (seg s.data.toList a b) := by
  apply ByteArray.ext
  unfold mkB seg
  rw [ByteArray.data_extract]
  apply Array.ext'
  simp
end Go.Proofs.YtpikndeefiediaaGreatDoor.O

namespace Go.Proofs.YtpikndeefiediaaGreatDoor.O
open Go.Proofs.YtpikndeefiediaaGreatDoor.B
open Go.RowKit

theorem cmpB_is (a b : UInt8) : cmpB a b = if a < b then -1 else if b < a then 1 else 0 := by
  unfold cmpB cmpI
  simp only [UInt8.lt_iff_toNat_lt, Int.ofNat_lt]
theorem less_cons (a b : UInt8) (x y : List UInt8) : lessL (a :: x) (b :: y) = if cmpB a b = 0 then lessL x y else cmpB a b := rfl
theorem compare_less : ∀ a b : List UInt8, Lib.compareBytes a b = lessL a b
  | [], [] => rfl
  | [], _ :: _ => rfl
  | _ :: _, [] => rfl
  | a :: x, b :: y => by
    rw [Lib.compareBytes, compare_less x y, less_cons, cmpB_is]
    by_cases h1 : a < b
    · rw [if_pos h1, if_pos h1, if_neg (by decide)]
    · rw [if_neg h1, if_neg h1]
      by_cases h2 : b < a
      · rw [if_pos h2, if_pos h2, if_neg (by decide)]
      · rw [if_neg h2, if_neg h2, if_pos rfl]
theorem ext_last (s : ByteArray) : extL s.data.toList = if Lib.lastIndexByte s 46 < 1 then [] else s.data.toList.drop (Lib.lastIndexByte s 46).toNat := by
  have key : ∀ n, n < s.size → extGo s.data.toList n = if Lib.lastIdx s 46 (n + 1) < 1 then [] else s.data.toList.drop (Lib.lastIdx s 46 (n + 1)).toNat := by
    intro n
    induction n with
    | zero =>
      intro h
      rw [if_pos, extGo]
      unfold Lib.lastIdx
      split
      · decide
      · show (-1 : Int) < 1; decide
    | succ n ih =>
      intro h
      have h' : n + 1 < s.data.size := h
      have hx : s.data[n + 1]! = s[n + 1]'h := by
        rw [getElem!_pos s.data (n + 1) h']
        rfl
      rw [extGo, list_at h]
      by_cases q : ((s.data[n + 1]!).toNat : Int) = 46
      · rw [Lib.lastIdx_hit s 46 (n + 1) q, if_neg (show ¬ ((n + 1 : Nat) : Int) < 1 by omega), Int.toNat_natCast, if_pos]
        rw [hx] at q
        have q' : (s[n + 1]'h).toNat = 46 := by omega
        exact congrArg some (UInt8.toNat_inj.1 q')
      · rw [Lib.lastIdx_miss s 46 (n + 1) q, if_neg, ih (by omega)]
        intro z
        rw [hx] at q
        rw [Option.some.inj z] at q
        exact q rfl
  unfold extL Lib.lastIndexByte
  rw [size_list]
  by_cases h0 : s.size = 0
  · rw [h0]
    rfl
  · rw [key _ (by omega), show s.size - 1 + 1 = s.size from by omega]

/-! Tokens. -/
def noughts (d : List UInt8) : List UInt8 := d.dropWhile (· == 48)
theorem noughts_le (d : List UInt8) : (noughts d).length ≤ d.length := (List.dropWhile_sublist _).length_le
def numC (d e : List UInt8) : Int := if cmpI (noughts d).length (noughts e).length = 0 then lessL (noughts d) (noughts e) else cmpI (noughts d).length (noughts e).length
theorem cmpB_of (m n : Nat) (hm : m < 256) (hn : n < 256) : cmpB (UInt8.ofNat m) (UInt8.ofNat n) = cmpI m n := by
  unfold cmpB
  rw [UInt8.toNat_ofNat_of_lt' (by simpa using hm), UInt8.toNat_ofNat_of_lt' (by simpa using hn)]
theorem num_less (d e : List UInt8) (hd : d.length < 65536) (he : e.length < 65536) : lessL (numT d) (numT e) = numC d e := by
  have l1 := noughts_le d
  have l2 := noughts_le e
  unfold numT numC
  change lessL (33 :: UInt8.ofNat ((noughts d).length / 256) :: UInt8.ofNat ((noughts d).length % 256) :: noughts d) (33 :: UInt8.ofNat ((noughts e).length / 256) :: UInt8.ofNat ((noughts e).length % 256) :: noughts e) = _
  generalize noughts d = D at l1 ⊢
  generalize noughts e = E at l2 ⊢
  rw [less_cons, if_pos (by decide), less_cons, less_cons, cmpB_of _ _ (by omega) (by omega), cmpB_of _ _ (by omega) (by omega)]
  generalize D.length = m at l1 ⊢
  generalize E.length = n at l2 ⊢
  have c : ∀ a b : Nat, cmpI a b = if a < b then -1 else if b < a then 1 else 0 := fun a b => by unfold cmpI; simp only [Int.ofNat_lt]
  rw [c, c, c]
  by_cases h1 : m / 256 < n / 256
  · rw [if_pos h1, if_neg (by decide), if_pos (show m < n by omega), if_neg (by decide)]
  · rw [if_neg h1]
    by_cases h2 : n / 256 < m / 256
    · rw [if_pos h2, if_neg (by decide), if_neg (show ¬ m < n by omega), if_pos (show n < m by omega), if_neg (by decide)]
    · rw [if_neg h2, if_pos rfl]
      by_cases h3 : m % 256 < n % 256
      · rw [if_pos h3, if_neg (by decide), if_pos (show m < n by omega), if_neg (by decide)]
      · rw [if_neg h3]
        by_cases h4 : n % 256 < m % 256
        · rw [if_pos h4, if_neg (by decide), if_neg (show ¬ m < n by omega), if_pos (show n < m by omega), if_neg (by decide)]
        · rw [if_neg h4, if_pos rfl, if_neg (show ¬ m < n by omega), if_neg (show ¬ n < m by omega), if_pos rfl]
/-- What the program tells of two tokens. -/
def tokC : List UInt8 → List UInt8 → Int
  | x :: A, y :: B => if digB x = true then (if digB y = true then numC (x :: A) (y :: B) else -1) else if digB y = true then 1 else cmpB x y
  | _, _ => 0
def tkN (l : List UInt8) : Nat := (l.takeWhile digB).length
def tkK (l : List UInt8) : Nat := max (tkN l) 1
def tkT : List UInt8 → List UInt8
  | [] => []
  | b :: r => if digB b = true then numT ((b :: r).takeWhile digB) else [126, b]
theorem tkN_le (l : List UInt8) : tkN l ≤ l.length := (List.takeWhile_sublist _).length_le
theorem take_tk (l : List UInt8) : l.take (tkN l) = l.takeWhile digB ∧ l.drop (tkN l) = l.dropWhile digB := by
  unfold tkN
  have h := List.takeWhile_append_dropWhile (p := digB) (l := l)
  constructor
  · conv => lhs; rw [← h]
    rw [h]
    conv => lhs; arg 2; rw [← h]
    exact List.take_left
  · conv => lhs; arg 2; rw [← h]
    exact List.drop_left
theorem toks_first (b : UInt8) (r : List UInt8) : toks (b :: r) = tkT (b :: r) :: toks ((b :: r).drop (tkK (b :: r))) := by
  rw [toks_cons, tkT]
  obtain ⟨t1, t2⟩ := take_tk (b :: r)
  by_cases hb : digB b = true
  · have hk : tkK (b :: r) = tkN (b :: r) := by
      unfold tkK tkN
      rw [List.takeWhile_cons, if_pos hb, List.length_cons]
      omega
    rw [if_pos hb, if_pos hb, hk, t2]
  · have hk : tkK (b :: r) = 1 := by
      unfold tkK tkN
      rw [List.takeWhile_cons, if_neg hb]
      rfl
    rw [if_neg hb, if_neg hb, hk]
    rfl
theorem tok_less (a : UInt8) (x : List UInt8) (b : UInt8) (y : List UInt8) (ha : (a :: x).length < 65536) (hb : (b :: y).length < 65536) : tokC ((a :: x).take (tkK (a :: x))) ((b :: y).take (tkK (b :: y))) = lessL (tkT (a :: x)) (tkT (b :: y)) := by
  have one : ∀ (a : UInt8) (x : List UInt8), digB a = true → (a :: x).take (tkK (a :: x)) = (a :: x).takeWhile digB ∧ ∃ r, (a :: x).takeWhile digB = a :: r := fun a x h => by
    have hk : tkK (a :: x) = tkN (a :: x) := by
      unfold tkK tkN
      rw [List.takeWhile_cons, if_pos h, List.length_cons]
      omega
    exact ⟨by rw [hk, (take_tk _).1], _, by rw [List.takeWhile_cons, if_pos h]⟩
  have two : ∀ (a : UInt8) (x : List UInt8), ¬ digB a = true → (a :: x).take (tkK (a :: x)) = [a] := fun a x h => by
    have hk : tkK (a :: x) = 1 := by
      unfold tkK tkN
      rw [List.takeWhile_cons, if_neg h]
      rfl
    rw [hk]
    rfl
  rw [tkT, tkT]
  by_cases ha1 : digB a = true
  · obtain ⟨e1, r1, e2⟩ := one a x ha1
    rw [if_pos ha1, e1]
    by_cases hb1 : digB b = true
    · obtain ⟨f1, r2, f2⟩ := one b y hb1
      rw [if_pos hb1, f1]
      have l1 := (List.takeWhile_sublist (l := a :: x) digB).length_le
      have l2 := (List.takeWhile_sublist (l := b :: y) digB).length_le
      rw [num_less _ _ (by omega) (by omega)]
      rw [e2, f2, tokC, if_pos ha1, if_pos hb1]
    · rw [if_neg hb1, two b y hb1, e2, tokC, if_pos ha1, if_neg hb1]
      unfold numT
      rw [less_cons, if_neg (by decide)]
      decide
  · rw [if_neg ha1, two a x ha1]
    by_cases hb1 : digB b = true
    · obtain ⟨f1, r2, f2⟩ := one b y hb1
      rw [if_pos hb1, f1, f2, tokC, if_neg ha1, if_pos hb1]
      unfold numT
      rw [less_cons, if_neg (by decide)]
      decide
    · rw [if_neg hb1, two b y hb1, tokC, if_neg ha1, if_neg hb1, less_cons, if_pos (by decide), less_cons]
      split
      · rename_i q
        rw [q]
        rfl
      · rfl
theorem ver_step (a : UInt8) (x : List UInt8) (b : UInt8) (y : List UInt8) (ha : (a :: x).length < 65536) (hb : (b :: y).length < 65536) : verL (a :: x) (b :: y) = if tokC ((a :: x).take (tkK (a :: x))) ((b :: y).take (tkK (b :: y))) = 0 then verL ((a :: x).drop (tkK (a :: x))) ((b :: y).drop (tkK (b :: y))) else tokC ((a :: x).take (tkK (a :: x))) ((b :: y).take (tkK (b :: y))) := by
  rw [tok_less a x b y ha hb]
  unfold verL
  rw [toks_first, toks_first, lexC]
theorem ver_end {x y : List UInt8} (h : x = [] ∨ y = []) : verL x y = cmpI x.length y.length := by
  cases x with
  | nil =>
    cases y with
    | nil => rfl
    | cons b y =>
      unfold verL
      rw [toks_first b y, toks_nil]
      show (-1 : Int) = _
      unfold cmpI
      rw [if_pos (by simp)]
  | cons a x =>
    have : y = [] := by rcases h with h | h; cases h; exact h
    subst this
    unfold verL
    rw [toks_first a x, toks_nil]
    show (1 : Int) = _
    unfold cmpI
    rw [if_neg (by simp; omega), if_pos (by simp)]
end Go.Proofs.YtpikndeefiediaaGreatDoor.O
