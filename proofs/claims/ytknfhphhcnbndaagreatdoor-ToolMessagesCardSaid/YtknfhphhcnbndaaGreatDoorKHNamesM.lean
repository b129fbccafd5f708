/-
  A path's names: what stands between its slashes, by bytes; the library's way, by runes, gives the same. Conditions: none.
-/
import Derived.Lib.FieldsP
import Derived.Lib.SpaceUEq
import Derived.Lib.TrimU
set_option linter.unusedVariables false
set_option linter.unusedSimpArgs false
namespace Go.Proofs.YtknfhphhcnbndaaGreatDoor.V

/-- Does byte i of a text stand for a slash? -/
def sl (s : ByteArray) (i : Nat) : Bool := (s.get! i).toNat == 47
/-- One step: at the end, or at a slash, what stands behind the last one is a name, if it isn't empty. -/
def nmStep (s : ByteArray) (i : Nat) (x : List (Nat × Nat) × Nat) : List (Nat × Nat) × Nat :=
  if i = s.size ∨ sl s i = true then ((if x.2 < i then x.1 ++ [(x.2, i)] else x.1), i + 1) else x
def nmGo (s : ByteArray) : Nat → List (Nat × Nat) × Nat
  | 0 => ([], 0)
  | i + 1 => nmStep s i (nmGo s i)
/-- Where the names of a text lie. -/
def nmSpans (s : ByteArray) : List (Nat × Nat) := (nmGo s (s.size + 1)).1
def namesL (s : ByteArray) : List ByteArray := (nmSpans s).map fun x => s.extract x.1 x.2
def isSl (r : Nat) : Bool := r == 47

theorem nmGo_le (s : ByteArray) : ∀ i, (nmGo s i).2 ≤ i
  | 0 => Nat.le_refl _
  | i + 1 => by
    have := nmGo_le s i
    rw [nmGo, nmStep]
    split
    · exact Nat.le_refl _
    · omega
/-- Bytes that are no slashes change nothing. -/
theorem nmGo_skip (s : ByteArray) (i : Nat) : ∀ k, (∀ j, j < k → i + j < s.size ∧ sl s (i + j) = false) → nmGo s (i + k) = nmGo s i
  | 0, _ => rfl
  | k + 1, h => by
    have ih := nmGo_skip s i k (fun j hj => h j (by omega))
    obtain ⟨h1, h2⟩ := h k (by omega)
    rw [show i + (k + 1) = (i + k) + 1 by omega, nmGo, nmStep, if_neg (by rw [h2]; simp; omega), ih]

theorem decode_sl (s : ByteArray) (i : Nat) (hi : i < s.size) : (isSl (Utf8.decode s i).1 = true → sl s i = true ∧ (Utf8.decode s i).2 = 1) ∧ (isSl (Utf8.decode s i).1 = false → ∀ j, j < (Utf8.decode s i).2 → i + j < s.size ∧ sl s (i + j) = false) := by
  rw [Lib.decode_at]
  have hc := Lib.decodeN_conts (s.size - i) (s.get! i).toNat (s.get! (i + 1)).toNat (s.get! (i + 2)).toNat (s.get! (i + 3)).toNat
  have e0 : sl s i = ((s.get! i).toNat == 47) := rfl
  have e1 : sl s (i + 1) = ((s.get! (i + 1)).toNat == 47) := rfl
  have e2 : sl s (i + 2) = ((s.get! (i + 2)).toNat == 47) := rfl
  have e3 : sl s (i + 3) = ((s.get! (i + 3)).toNat == 47) := rfl
  generalize (s.get! i).toNat = b0 at *
  generalize (s.get! (i + 1)).toNat = b1 at *
  generalize (s.get! (i + 2)).toNat = b2 at *
  generalize (s.get! (i + 3)).toNat = b3 at *
  have H : (b0 < 128 ∧ Lib.decodeN (s.size - i) b0 b1 b2 b3 = (b0, 1)) ∨ (128 ≤ b0 ∧ 48 ≤ (Lib.decodeN (s.size - i) b0 b1 b2 b3).1) := by
    rcases Lib.decodeN_cases (s.size - i) b0 b1 b2 b3 with h | ⟨a, b, c, d, e⟩ | ⟨a, b, c, c', d, e⟩ | ⟨a, b⟩ | e
    · exact .inl h
    · exact .inr ⟨by omega, by rw [e]; show 48 ≤ _; omega⟩
    · exact .inr ⟨by omega, by rw [e]; show 48 ≤ _; omega⟩
    · refine .inr ⟨?_, by omega⟩
      by_cases q : b0 < 128
      · rw [Lib.decodeN_ascii _ _ _ _ _ q] at b; simp at b
      · omega
    · by_cases q : b0 < 128
      · exact .inl ⟨q, Lib.decodeN_ascii _ _ _ _ _ q⟩
      · exact .inr ⟨by omega, by rw [e]; show 48 ≤ _; omega⟩
  constructor
  · intro h
    unfold isSl at h
    rcases H with ⟨q, e⟩ | ⟨q, e⟩
    · rw [e] at h ⊢
      exact ⟨by rw [e0]; exact h, rfl⟩
    · rw [beq_iff_eq] at h; omega
  · intro h j hj
    have z0 : sl s i = false := by
      rw [e0, beq_eq_false_iff_ne]
      rcases H with ⟨q, e⟩ | ⟨q, e⟩
      · rw [e] at h; unfold isSl at h; exact beq_eq_false_iff_ne.1 h
      · omega
    obtain ⟨c1, c2, c3, c4⟩ := hc
    match j, hj with
    | 0, _ => exact ⟨by omega, z0⟩
    | 1, hj => have := c1 (by omega); exact ⟨by omega, by rw [e1, beq_eq_false_iff_ne]; omega⟩
    | 2, hj => have := c2 (by omega); exact ⟨by omega, by rw [e2, beq_eq_false_iff_ne]; omega⟩
    | 3, hj => have := c3 (by omega); exact ⟨by omega, by rw [e3, beq_eq_false_iff_ne]; omega⟩
    | j + 4, hj => omega

def accOf (st : Option Nat) (pos : Nat) (acc : List (Nat × Nat)) : List (Nat × Nat) := match st with
  | some a => acc ++ [(a, pos)]
  | none => acc
theorem spans_yes {p : Nat → Bool} {s : ByteArray} {f pos : Nat} {st : Option Nat} {acc : List (Nat × Nat)} (h : pos < s.size) (hp : p (Utf8.decode s pos).1 = true) :
    Lib.spansFromP p s (f + 1) pos st acc = Lib.spansFromP p s f (pos + (Utf8.decode s pos).2) none (accOf st pos acc) := by
  cases st <;> simp [Lib.spansFromP, h, hp, accOf]
theorem spans_no {p : Nat → Bool} {s : ByteArray} {f pos : Nat} {st : Option Nat} {acc : List (Nat × Nat)} (h : pos < s.size) (hp : p (Utf8.decode s pos).1 = false) :
    Lib.spansFromP p s (f + 1) pos st acc = Lib.spansFromP p s f (pos + (Utf8.decode s pos).2) (some (st.getD pos)) acc := by
  cases st <;> simp [Lib.spansFromP, h, hp]
def stOf (x : List (Nat × Nat) × Nat) (i : Nat) : Option Nat := if x.2 < i then some x.2 else none
theorem spans_nm (s : ByteArray) : ∀ (f pos : Nat), pos ≤ s.size → s.size ≤ pos + f →
    Lib.closeSpans s (Lib.spansFromP isSl s f pos (stOf (nmGo s pos) pos) (nmGo s pos).1) = nmSpans s
  | f, pos, hp, hf => by
    by_cases hlt : pos < s.size
    · obtain ⟨f, rfl⟩ : ∃ g, f = g + 1 := ⟨f - 1, by omega⟩
      obtain ⟨d1, d2⟩ := decode_sl s pos hlt
      have hw := Lib.width_pos s pos
      cases hb : isSl (Utf8.decode s pos).1 with
      | true =>
        obtain ⟨s1, s2⟩ := d1 hb
        have ih := spans_nm s f (pos + 1) (by omega) (by omega)
        have eg : nmGo s (pos + 1) = ((if (nmGo s pos).2 < pos then (nmGo s pos).1 ++ [((nmGo s pos).2, pos)] else (nmGo s pos).1), pos + 1) := by
          rw [nmGo, nmStep, if_pos (.inr s1)]
        rw [spans_yes hlt hb, s2]
        rw [eg] at ih
        have e0 : stOf ((if (nmGo s pos).2 < pos then (nmGo s pos).1 ++ [((nmGo s pos).2, pos)] else (nmGo s pos).1), pos + 1) (pos + 1) = none := by
          unfold stOf
          rw [if_neg (by show ¬ pos + 1 < pos + 1; omega)]
        rw [e0] at ih
        unfold stOf
        by_cases q : (nmGo s pos).2 < pos
        · rw [if_pos q]
          rw [if_pos q] at ih
          exact ih
        · rw [if_neg q]
          rw [if_neg q] at ih
          exact ih
      | false =>
        have hk := d2 hb
        rw [spans_no hlt hb]
        generalize hkk : (Utf8.decode s pos).2 = k at *
        have hle : pos + k ≤ s.size := by have := (hk (k - 1) (by omega)).1; omega
        have ih := spans_nm s f (pos + k) hle (by omega)
        rw [nmGo_skip s pos k hk] at ih
        have hn := nmGo_le s pos
        unfold stOf at ih ⊢
        rw [if_pos (by omega)] at ih
        by_cases q : (nmGo s pos).2 < pos
        · rw [if_pos q]
          exact ih
        · rw [if_neg q]
          have e : (nmGo s pos).2 = pos := by omega
          rw [e] at ih
          exact ih
    · obtain rfl : pos = s.size := by omega
      rw [Lib.spansFromP_end isSl s f _ _ _ hlt]
      unfold nmSpans
      rw [nmGo, nmStep, if_pos (.inl rfl)]
      unfold stOf Lib.closeSpans
      by_cases q : (nmGo s s.size).2 < s.size
      · rw [if_pos q, if_pos q]
      · rw [if_neg q, if_neg q]
theorem fields_names (s : ByteArray) : Lib.goFieldsP isSl s = namesL s := by
  unfold Lib.goFieldsP namesL Lib.spansOfP
  have := spans_nm s s.size 0 (Nat.zero_le _) (by omega)
  have e : stOf (nmGo s 0) 0 = none := rfl
  rw [e] at this
  exact congrArg (List.map fun x => s.extract x.1 x.2) this
/-- How many, and where. -/
theorem nmGo_ok (s : ByteArray) : ∀ i, i ≤ s.size + 1 → (nmGo s i).1.length ≤ i ∧ ∀ x ∈ (nmGo s i).1, x.1 < x.2 ∧ x.2 ≤ s.size
  | 0, _ => ⟨Nat.le_refl _, fun x hx => by simp [nmGo] at hx⟩
  | i + 1, h => by
    obtain ⟨h1, h2⟩ := nmGo_ok s i (by omega)
    rw [nmGo, nmStep]
    split
    · split
      · refine ⟨by simp; omega, fun x hx => ?_⟩
        rcases List.mem_append.1 hx with hx | hx
        · exact h2 x hx
        · simp at hx; subst hx; exact ⟨by assumption, by show i ≤ _; omega⟩
      · exact ⟨by show (nmGo s i).1.length ≤ i + 1; omega, h2⟩
    · exact ⟨by omega, h2⟩
end Go.Proofs.YtknfhphhcnbndaaGreatDoor.V
