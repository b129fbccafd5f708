/-
  Plain facts on the reference's reader of one character: when it is bad, and its number else. Conditions: none.
-/
import Derived.Test.YtemnbleacjpfcaaDoorWMath
namespace Go.Proofs.YtemnbleacjpfcaaDoor.W

/-- The character's number, -1 of a bad one. -/
def nextR (s : ByteArray) : Int := if 128 ≤ (s.get! 0).toNat ∧ (Utf8.decode s 0).2 = 1 then -1 else ((Utf8.decode s 0).1 : Nat)
/-- The bits that were gathered behind m more bytes. -/
def accR (s : ByteArray) (r0 : Int) : Nat → Int
  | 0 => r0
  | m + 1 => accR s r0 m * 64 + ((s.get! (m + 1)).toNat : Int) % 64
theorem accR_bd (s : ByteArray) (r0 : Int) (h0 : 0 ≤ r0) (h1 : r0 ≤ 31) (m : Nat) (hm : m ≤ 3) : 0 ≤ accR s r0 m ∧ accR s r0 m ≤ 8388607 := by
  match m, hm with
  | 0, _ => simp only [accR]; omega
  | 1, _ => simp only [accR]; omega
  | 2, _ => simp only [accR]; omega
  | 3, _ => simp only [accR]; omega

set_option maxRecDepth 100000 in
theorem dN_none (n b0 b1 b2 b3 : Nat) (h : (128 ≤ b0 ∧ b0 < 192) ∨ (248 ≤ b0 ∧ b0 < 256)) : Lib.decodeN n b0 b1 b2 b3 = (65533, 1) := by
  unfold Lib.decodeN
  repeat' split
  all_goals first | (exfalso; omega) | rfl
set_option maxRecDepth 100000 in
theorem dN_two (n b0 b1 b2 b3 : Nat) (h : 192 ≤ b0) (h' : b0 < 224) (hn : 1 < n) (h1 : b1 / 64 = 2) (hk : 128 ≤ b0 % 32 * 64 + b1 % 64) : Lib.decodeN n b0 b1 b2 b3 = (b0 % 32 * 64 + b1 % 64, 2) := by
  unfold Lib.decodeN
  repeat' split
  all_goals first | (exfalso; omega) | rfl
set_option maxRecDepth 100000 in
theorem dN_two_bad (n b0 b1 b2 b3 : Nat) (h : 192 ≤ b0) (h' : b0 < 224) (hk : ¬ (1 < n ∧ b1 / 64 = 2) ∨ b0 % 32 * 64 + b1 % 64 < 128) : Lib.decodeN n b0 b1 b2 b3 = (65533, 1) := by
  unfold Lib.decodeN
  repeat' split
  all_goals first | (exfalso; omega) | rfl
set_option maxRecDepth 100000 in
theorem dN_three (n b0 b1 b2 b3 : Nat) (h : 224 ≤ b0) (h' : b0 < 240) (hn : 2 < n) (h1 : b1 / 64 = 2) (h2 : b2 / 64 = 2) (hk : 2048 ≤ b0 % 16 * 4096 + b1 % 64 * 64 + b2 % 64)
    (hs : ¬ (55296 ≤ b0 % 16 * 4096 + b1 % 64 * 64 + b2 % 64 ∧ b0 % 16 * 4096 + b1 % 64 * 64 + b2 % 64 ≤ 57343)) : Lib.decodeN n b0 b1 b2 b3 = (b0 % 16 * 4096 + b1 % 64 * 64 + b2 % 64, 3) := by
  unfold Lib.decodeN
  repeat' split
  all_goals first | (exfalso; omega) | rfl
set_option maxRecDepth 100000 in
theorem dN_three_bad (n b0 b1 b2 b3 : Nat) (h : 224 ≤ b0) (h' : b0 < 240) (hk : ¬ (1 < n ∧ b1 / 64 = 2) ∨ ¬ (2 < n ∧ b2 / 64 = 2) ∨ b0 % 16 * 4096 + b1 % 64 * 64 + b2 % 64 < 2048 ∨ (55296 ≤ b0 % 16 * 4096 + b1 % 64 * 64 + b2 % 64 ∧ b0 % 16 * 4096 + b1 % 64 * 64 + b2 % 64 ≤ 57343)) :
    Lib.decodeN n b0 b1 b2 b3 = (65533, 1) := by
  unfold Lib.decodeN
  repeat' split
  all_goals first | (exfalso; omega) | rfl
set_option maxRecDepth 100000 in
theorem dN_four (n b0 b1 b2 b3 : Nat) (h : 240 ≤ b0) (h' : b0 < 248) (hn : 3 < n) (h1 : b1 / 64 = 2) (h2 : b2 / 64 = 2) (h3 : b3 / 64 = 2) (hk : 65536 ≤ b0 % 8 * 262144 + b1 % 64 * 4096 + b2 % 64 * 64 + b3 % 64)
    (hs : b0 % 8 * 262144 + b1 % 64 * 4096 + b2 % 64 * 64 + b3 % 64 ≤ 1114111) : Lib.decodeN n b0 b1 b2 b3 = (b0 % 8 * 262144 + b1 % 64 * 4096 + b2 % 64 * 64 + b3 % 64, 4) := by
  unfold Lib.decodeN
  repeat' split
  all_goals first | (exfalso; omega) | rfl
set_option maxRecDepth 100000 in
theorem dN_four_bad (n b0 b1 b2 b3 : Nat) (h : 240 ≤ b0) (h' : b0 < 248) (hk : ¬ (1 < n ∧ b1 / 64 = 2) ∨ ¬ (2 < n ∧ b2 / 64 = 2) ∨ ¬ (3 < n ∧ b3 / 64 = 2) ∨ b0 % 8 * 262144 + b1 % 64 * 4096 + b2 % 64 * 64 + b3 % 64 < 65536 ∨ 1114111 < b0 % 8 * 262144 + b1 % 64 * 4096 + b2 % 64 * 64 + b3 % 64) :
    Lib.decodeN n b0 b1 b2 b3 = (65533, 1) := by
  unfold Lib.decodeN
  repeat' split
  all_goals first | (exfalso; omega) | rfl

/-- What a reading of one character answers. -/
def NextIs (s : ByteArray) (r n : Int) : Prop := r = nextR s ∧ n = ((Utf8.decode s 0).2 : Nat)
theorem next_bad {s : ByteArray} (h : 128 ≤ (s.get! 0).toNat) (hd : Lib.decodeN (s.size - 0) (s.get! 0).toNat (s.get! (0 + 1)).toNat (s.get! (0 + 2)).toNat (s.get! (0 + 3)).toNat = (65533, 1)) : NextIs s (-1) 1 := by
  rw [← Lib.decode_at] at hd
  unfold NextIs nextR
  rw [hd]
  simp [h]
theorem next_good {s : ByteArray} {c n : Nat} (hn : 2 ≤ n) (hd : Lib.decodeN (s.size - 0) (s.get! 0).toNat (s.get! (0 + 1)).toNat (s.get! (0 + 2)).toNat (s.get! (0 + 3)).toNat = (c, n)) : NextIs s c n := by
  rw [← Lib.decode_at] at hd
  unfold NextIs nextR
  rw [hd]
  rw [if_neg (by dsimp only; omega)]
  exact ⟨rfl, rfl⟩
theorem next_one {s : ByteArray} (h : (s.get! 0).toNat < 128) : NextIs s (s.get! 0).toNat 1 := by
  have hd : Utf8.decode s 0 = ((s.get! 0).toNat, 1) := by
    rw [Lib.decode_at]
    simp [Lib.decodeN, h]
  unfold NextIs nextR
  rw [hd, if_neg (by omega)]
  exact ⟨rfl, rfl⟩

/-- All of the bytes behind the first, m of them, go on. -/
def Conts (s : ByteArray) (m : Nat) : Prop := ∀ j, 1 ≤ j → j ≤ m → (s.get! j).toNat / 64 = 2

theorem two_end {s : ByteArray} (h : 192 ≤ (s.get! 0).toNat) (h' : (s.get! 0).toNat < 224) (hn : 2 ≤ s.size) (hc : Conts s 1) {R : Int} (hR : R = accR s (((s.get! 0).toNat : Int) % 32) 1) (hk : 128 ≤ R) : NextIs s R 2 := by
  have h1 := hc 1 (by omega) (by omega)
  simp only [accR, Nat.zero_add] at hR
  have := next_good (s := s) (by omega) (dN_two (s.size - 0) (s.get! 0).toNat (s.get! (0 + 1)).toNat (s.get! (0 + 2)).toNat (s.get! (0 + 3)).toNat h h' (by omega) h1 (by simp only [Nat.zero_add]; omega))
  simp only [Nat.zero_add] at this
  have e : R = (((s.get! 0).toNat % 32 * 64 + (s.get! 1).toNat % 64 : Nat) : Int) := by omega
  rw [e]
  exact this
theorem two_bad {s : ByteArray} (h : 192 ≤ (s.get! 0).toNat) (h' : (s.get! 0).toNat < 224) (hk : s.size < 2 ∨ (∃ j, 1 ≤ j ∧ j < 2 ∧ (s.get! j).toNat / 64 ≠ 2) ∨ accR s (((s.get! 0).toNat : Int) % 32) 1 < 128) : NextIs s (-1) 1 := by
  refine next_bad (by omega) (dN_two_bad _ _ _ _ _ h h' ?_)
  simp only [accR, Nat.zero_add] at hk ⊢
  rcases hk with hk | ⟨j, h1, h2, h3⟩ | hk
  · omega
  · obtain rfl : j = 1 := by omega
    omega
  · omega
theorem three_end {s : ByteArray} (h : 224 ≤ (s.get! 0).toNat) (h' : (s.get! 0).toNat < 240) (hn : 3 ≤ s.size) (hc : Conts s 2) {R : Int} (hR : R = accR s (((s.get! 0).toNat : Int) % 16) 2) (hk : 2048 ≤ R) (hs : ¬ (55296 ≤ R ∧ R ≤ 57343)) : NextIs s R 3 := by
  have h1 := hc 1 (by omega) (by omega)
  have h2 := hc 2 (by omega) (by omega)
  simp only [accR, Nat.zero_add, Nat.reduceAdd] at hR
  have := next_good (s := s) (by omega) (dN_three (s.size - 0) (s.get! 0).toNat (s.get! (0 + 1)).toNat (s.get! (0 + 2)).toNat (s.get! (0 + 3)).toNat h h' (by omega) h1 h2 (by simp only [Nat.zero_add]; omega) (by simp only [Nat.zero_add]; omega))
  simp only [Nat.zero_add] at this
  have e : R = (((s.get! 0).toNat % 16 * 4096 + (s.get! 1).toNat % 64 * 64 + (s.get! 2).toNat % 64 : Nat) : Int) := by omega
  rw [e]
  exact this
theorem three_bad {s : ByteArray} (h : 224 ≤ (s.get! 0).toNat) (h' : (s.get! 0).toNat < 240) (hk : s.size < 3 ∨ (∃ j, 1 ≤ j ∧ j < 3 ∧ (s.get! j).toNat / 64 ≠ 2) ∨ accR s (((s.get! 0).toNat : Int) % 16) 2 < 2048 ∨ (55296 ≤ accR s (((s.get! 0).toNat : Int) % 16) 2 ∧ accR s (((s.get! 0).toNat : Int) % 16) 2 ≤ 57343)) : NextIs s (-1) 1 := by
  refine next_bad (by omega) (dN_three_bad _ _ _ _ _ h h' ?_)
  simp only [accR, Nat.zero_add, Nat.reduceAdd] at hk ⊢
  rcases hk with hk | ⟨j, h1, h2, h3⟩ | hk
  · omega
  · rcases (show j = 1 ∨ j = 2 by omega) with rfl | rfl <;> omega
  · omega
theorem four_end {s : ByteArray} (h : 240 ≤ (s.get! 0).toNat) (h' : (s.get! 0).toNat < 248) (hn : 4 ≤ s.size) (hc : Conts s 3) {R : Int} (hR : R = accR s (((s.get! 0).toNat : Int) % 8) 3) (hk : 65536 ≤ R) (hs : R ≤ 1114111) : NextIs s R 4 := by
  have h1 := hc 1 (by omega) (by omega)
  have h2 := hc 2 (by omega) (by omega)
  have h3 := hc 3 (by omega) (by omega)
  simp only [accR, Nat.zero_add, Nat.reduceAdd] at hR
  have := next_good (s := s) (by omega) (dN_four (s.size - 0) (s.get! 0).toNat (s.get! (0 + 1)).toNat (s.get! (0 + 2)).toNat (s.get! (0 + 3)).toNat h h' (by omega) h1 h2 h3 (by simp only [Nat.zero_add]; omega) (by simp only [Nat.zero_add]; omega))
  simp only [Nat.zero_add] at this
  have e : R = (((s.get! 0).toNat % 8 * 262144 + (s.get! 1).toNat % 64 * 4096 + (s.get! 2).toNat % 64 * 64 + (s.get! 3).toNat % 64 : Nat) : Int) := by omega
  rw [e]
  exact this
theorem four_bad {s : ByteArray} (h : 240 ≤ (s.get! 0).toNat) (h' : (s.get! 0).toNat < 248) (hk : s.size < 4 ∨ (∃ j, 1 ≤ j ∧ j < 4 ∧ (s.get! j).toNat / 64 ≠ 2) ∨ accR s (((s.get! 0).toNat : Int) % 8) 3 < 65536 ∨ 1114111 < accR s (((s.get! 0).toNat : Int) % 8) 3) : NextIs s (-1) 1 := by
  refine next_bad (by omega) (dN_four_bad _ _ _ _ _ h h' ?_)
  simp only [accR, Nat.zero_add, Nat.reduceAdd] at hk ⊢
  rcases hk with hk | ⟨j, h1, h2, h3⟩ | hk
  · omega
  · rcases (show j = 1 ∨ j = 2 ∨ j = 3 by omega) with rfl | rfl | rfl <;> omega
  · omega

/-- The width is the same, bad or not. -/
theorem nextR_width (s : ByteArray) : runeW (nextR s) = runeW ((Utf8.decode s 0).1 : Nat) := by
  unfold nextR
  split
  · rename_i hb
    have : Utf8.decode s 0 = (65533, 1) := by
      have h2 := hb.2
      rw [Lib.decode_at] at h2 ⊢
      unfold Lib.decodeN at h2 ⊢
      repeat' split at h2
      all_goals first | (exfalso; dsimp only at h2; omega) | skip
      all_goals (repeat' split)
      all_goals first | rfl | (exfalso; omega)
    rw [this]
    decide +kernel
  · rfl
end Go.Proofs.YtemnbleacjpfcaaDoor.W
