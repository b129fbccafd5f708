/-
  Plain facts on the width of texts put together: where the second one begins with an ASCII byte the widths add up. Conditions: each fact's own.
-/
import Derived.Test.YtemnbleacjpfcaaDoorWMath
set_option linter.unusedVariables false
namespace Go.Proofs.YtemnbleacjpfcaaDoor.L
open Go.Proofs.YtemnbleacjpfcaaDoor.W

theorem dapp (a b : ByteArray) : (a ++ b).data.toList = a.data.toList ++ b.data.toList := by simp
set_option maxRecDepth 100000 in
set_option maxHeartbeats 4000000 in
/-- A character ends ahead of a byte that doesn't go on with it. -/
theorem dN_short (N n b0 d1 d2 d3 : Nat) (hn : 1 ≤ n) (h1 : n = 1 → d1 < 128) (h2 : n = 2 → d2 < 128) (h3 : n = 3 → d3 < 128) : (Lib.decodeN N b0 d1 d2 d3).2 ≤ n := by
  unfold Lib.decodeN
  repeat' split
  all_goals (dsimp only; first | omega | (rcases (show n = 1 ∨ n = 2 ∨ n = 3 ∨ 4 ≤ n by omega) with rfl | rfl | rfl | h <;> first | omega | (have := h1 rfl; omega) | (have := h2 rfl; omega) | (have := h3 rfl; omega)))
theorem app_size (a b : ByteArray) : (a ++ b).size = a.size + b.size := by
  rw [Lib.size_eq, Lib.size_eq, Lib.size_eq, dapp, List.length_append]
theorem app_get_r (a b : ByteArray) (j : Nat) : (a ++ b).get! (a.size + j) = b.get! j := by
  rw [← Lib.getD_get!', ← Lib.getD_get!', dapp, List.getD_eq_getElem?_getD, List.getElem?_append_right (by rw [← Lib.size_eq]; omega), ← Lib.size_eq, Nat.add_sub_cancel_left, List.getD_eq_getElem?_getD]
theorem app_left (a b : ByteArray) : (a ++ b).extract 0 a.size = a := by
  apply ByteArray.ext
  apply Array.toList_inj.1
  rw [Lib.extract_data, dapp, List.drop_zero, Nat.sub_zero, Lib.size_eq, List.take_left]
theorem app_right (a b : ByteArray) : (a ++ b).extract a.size (a ++ b).size = b := by
  apply ByteArray.ext
  apply Array.toList_inj.1
  rw [Lib.extract_data, dapp, app_size, Nat.add_sub_cancel_left, List.drop_left' (Lib.size_eq a).symm, Lib.size_eq b, List.take_length]
theorem leads_to (a t : ByteArray) (ht : 0 < t.size) (hc : (t.get! 0).toNat < 128) : ∀ f q, a.size - q ≤ f → q ≤ a.size → Leads (a ++ t) a.size q
  | 0, q, hf, hq => by
    obtain rfl : q = a.size := by omega
    exact .here
  | f + 1, q, hf, hq => by
    by_cases h : q = a.size
    · rw [h]; exact .here
    · have hs : (a ++ t).size = a.size + t.size := app_size a t
      have hlt : q < (a ++ t).size := by omega
      have hw := Lib.decode_width_pos (a ++ t) q hlt
      have hz : ((a ++ t).get! a.size).toNat < 128 := by
        have := app_get_r a t 0
        rw [Nat.add_zero] at this
        rw [this]
        exact hc
      have hk : (Utf8.decode (a ++ t) q).2 ≤ a.size - q := by
        rw [Lib.decode_at]
        refine dN_short _ _ _ _ _ _ (by omega) (fun e => ?_) (fun e => ?_) (fun e => ?_)
        · rw [show q + 1 = a.size by omega]; exact hz
        · rw [show q + 2 = a.size by omega]; exact hz
        · rw [show q + 3 = a.size by omega]; exact hz
      exact .step q hlt (leads_to a t ht hc f _ (by omega) (by omega))
/-- Behind any text one that begins with an ASCII byte. -/
theorem wd_app (a t : ByteArray) (h : 0 < t.size → (t.get! 0).toNat < 128) : wd (a ++ t) 0 = wd a 0 + wd t 0 := by
  have hs := app_size a t
  by_cases h0 : 0 < t.size
  · have hl := leads_to a t h0 (h h0) a.size 0 (by omega) (by omega)
    have e := wd_head (s := a ++ t) (p := a.size) (by omega) hl
    have e2 := wd_tail (a ++ t) a.size
    rw [app_right] at e2
    rw [app_left, ← e2] at e
    exact e.symm
  · have : t = ByteArray.empty := ByteArray.ext (Array.toList_inj.1 (List.eq_nil_of_length_eq_zero (by rw [← Lib.size_eq]; omega)))
    subst this
    have e : a ++ ByteArray.empty = a := ByteArray.ext (Array.toList_inj.1 (by rw [dapp]; exact List.append_nil _))
    rw [e, wd_end ByteArray.empty 0 (by decide)]
    omega
theorem one_get (c : UInt8) (t : ByteArray) : ((⟨#[c]⟩ : ByteArray) ++ t).get! 0 = c := by
  rw [← Lib.getD_get!', dapp]
  rfl
theorem one_size (c : UInt8) (t : ByteArray) : ((⟨#[c]⟩ : ByteArray) ++ t).size = t.size + 1 := by
  rw [app_size]
  show 1 + t.size = _
  omega
/-- An ASCII byte ahead of any text. -/
theorem wd_one (c : UInt8) (t : ByteArray) (hc : c.toNat < 128) : wd (⟨#[c]⟩ ++ t) 0 = runeW c.toNat + wd t 0 := by
  have hs := one_size c t
  have hd : Utf8.decode (⟨#[c]⟩ ++ t) 0 = (c.toNat, 1) := by
    rw [Lib.decode_at, one_get]
    unfold Lib.decodeN
    rw [if_pos hc]
  rw [wd_step _ 0 (by omega), hd]
  show runeW c.toNat + wd _ (0 + 1) = _
  have e := app_right ⟨#[c]⟩ t
  rw [← wd_tail, show (0 + 1) = (⟨#[c]⟩ : ByteArray).size from rfl, e]
theorem wd_nil : wd ByteArray.empty 0 = 0 := wd_end _ 0 (by decide)
theorem wd_byte (c : UInt8) (hc : c.toNat < 128) : wd ⟨#[c]⟩ 0 = runeW c.toNat := by
  have e : (⟨#[c]⟩ : ByteArray) ++ ByteArray.empty = ⟨#[c]⟩ := ByteArray.ext (Array.toList_inj.1 (by rw [dapp]; exact List.append_nil _))
  have := wd_one c ByteArray.empty hc
  rw [e, wd_nil] at this
  omega
/-- A text, an ASCII byte of width 1, a text. -/
theorem wd_three (a b : ByteArray) (c : UInt8) (hc : c.toNat < 128) (h1 : runeW c.toNat = 1) : wd (a ++ (⟨#[c]⟩ ++ b)) 0 = wd a 0 + 1 + wd b 0 := by
  rw [wd_app _ _ (fun _ => by rw [one_get]; exact hc), wd_one c b hc, h1]
  omega
def blankL (n : Nat) : ByteArray := ⟨(List.replicate n (32 : UInt8)).toArray⟩
theorem blankL_size (n : Nat) : (blankL n).size = n := by show (List.replicate n (32 : UInt8)).toArray.size = n; simp
theorem blankL_succ (n : Nat) : blankL (n + 1) = ⟨#[32]⟩ ++ blankL n := ByteArray.ext (Array.toList_inj.1 (by rw [dapp]; exact List.replicate_succ))
theorem blankL_snoc (n : Nat) : blankL (n + 1) = blankL n ++ ⟨#[32]⟩ := ByteArray.ext (Array.toList_inj.1 (by rw [dapp]; exact List.replicate_succ'))
theorem wd_blanks (n : Nat) (t : ByteArray) : wd (blankL n ++ t) 0 = n + wd t 0 := by
  induction n with
  | zero =>
    have : blankL 0 ++ t = t := ByteArray.ext (Array.toList_inj.1 (by rw [dapp]; rfl))
    rw [this]; omega
  | succ n ih =>
    have e : blankL (n + 1) ++ t = ⟨#[32]⟩ ++ (blankL n ++ t) := ByteArray.ext (Array.toList_inj.1 (by rw [blankL_succ, dapp, dapp, dapp, dapp, List.append_assoc]))
    rw [e, wd_one 32 _ (by decide), ih, show runeW ((32 : UInt8).toNat : Int) = 1 by decide +kernel]
    omega
/-- A text, at least one blank, a text. -/
theorem wd_gap (a b : ByteArray) (n : Nat) (h : 0 < n ∨ b.size = 0) : wd (a ++ (blankL n ++ b)) 0 = wd a 0 + n + wd b 0 := by
  rw [wd_app, wd_blanks]
  · omega
  · intro hz
    cases n with
    | zero =>
      rcases h with h | h
      · omega
      · rw [app_size, blankL_size] at hz
        omega
    | succ n =>
      have e : blankL (n + 1) ++ b = ⟨#[32]⟩ ++ (blankL n ++ b) := ByteArray.ext (Array.toList_inj.1 (by rw [blankL_succ, dapp, dapp, dapp, dapp, List.append_assoc]))
      rw [e, one_get]
      decide
theorem comma_one : runeW ((44 : UInt8).toNat : Int) = 1 := by decide +kernel
theorem blank_one : runeW ((32 : UInt8).toNat : Int) = 1 := by decide +kernel
end Go.Proofs.YtemnbleacjpfcaaDoor.L
