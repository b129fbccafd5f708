/-
  Plain facts on the reference's readers. Conditions: none.
-/
import Derived.Test.YtlilnljneakngaaDoorQKindsW
import Derived.Test.YtlilnljneakngaaDoorQC
set_option linter.unusedVariables false
namespace Go.Proofs.YtlilnljneakngaaDoor

/-- The escape behind a backslash, as the reference reads it. -/
def onP (l : Bytes) : UInt8 × Nat :=
  if nth l 0 = 110 then (10, 1) else if nth l 0 = 116 then (9, 1)
  else if 48 ≤ nth l 0 ∧ nth l 0 ≤ 55 ∧ 48 ≤ nth l 1 ∧ nth l 1 ≤ 55 ∧ 48 ≤ nth l 2 ∧ nth l 2 ≤ 55 ∧ (nth l 0 - 48) * 64 + (nth l 1 - 48) * 8 + (nth l 2 - 48) ≤ 255
  then (((nth l 0 - 48) * 64 + (nth l 1 - 48) * 8 + (nth l 2 - 48)).toUInt8, 3) else (0, 0)
theorem nth_drop (l : Bytes) (i j : Nat) : nth (l.drop i) j = nth l (i + j) := by
  unfold nth
  rw [List.getD_eq_getElem?_getD, List.getD_eq_getElem?_getD, List.getElem?_drop]
theorem rdE_on {m : Bytes} (h : nth m 0 = 92) : (rdE m).1 = (onP (m.drop 1)).1 ∧ (rdE m).2 = if (onP (m.drop 1)).2 = 0 then 0 else (onP (m.drop 1)).2 + 1 := by
  unfold rdE onP
  rw [nth_drop, nth_drop, nth_drop]
  by_cases h1 : nth m 1 = 110
  · rw [if_pos ⟨h, h1⟩, if_pos h1]; exact ⟨rfl, rfl⟩
  · rw [if_neg (fun x => h1 x.2), if_neg (show ¬ nth m (1 + 0) = 110 from h1)]
    by_cases h2 : nth m 1 = 116
    · rw [if_pos ⟨h, h2⟩, if_pos (show nth m (1 + 0) = 116 from h2)]; exact ⟨rfl, rfl⟩
    · rw [if_neg (fun x => h2 x.2), if_neg (show ¬ nth m (1 + 0) = 116 from h2)]
      show (if _ then _ else _ : UInt8 × Nat).1 = (if 48 ≤ nth m 1 ∧ nth m 1 ≤ 55 ∧ 48 ≤ nth m 2 ∧ nth m 2 ≤ 55 ∧ 48 ≤ nth m 3 ∧ nth m 3 ≤ 55 ∧ (nth m 1 - 48) * 64 + (nth m 2 - 48) * 8 + (nth m 3 - 48) ≤ 255
        then (((nth m 1 - 48) * 64 + (nth m 2 - 48) * 8 + (nth m 3 - 48)).toUInt8, 3) else (0, 0) : UInt8 × Nat).1 ∧ (if _ then _ else _ : UInt8 × Nat).2 = if (if 48 ≤ nth m 1 ∧ nth m 1 ≤ 55 ∧ 48 ≤ nth m 2 ∧ nth m 2 ≤ 55 ∧ 48 ≤ nth m 3 ∧ nth m 3 ≤ 55 ∧ (nth m 1 - 48) * 64 + (nth m 2 - 48) * 8 + (nth m 3 - 48) ≤ 255
        then (((nth m 1 - 48) * 64 + (nth m 2 - 48) * 8 + (nth m 3 - 48)).toUInt8, 3) else (0, 0) : UInt8 × Nat).2 = 0 then 0 else (if 48 ≤ nth m 1 ∧ nth m 1 ≤ 55 ∧ 48 ≤ nth m 2 ∧ nth m 2 ≤ 55 ∧ 48 ≤ nth m 3 ∧ nth m 3 ≤ 55 ∧ (nth m 1 - 48) * 64 + (nth m 2 - 48) * 8 + (nth m 3 - 48) ≤ 255
        then (((nth m 1 - 48) * 64 + (nth m 2 - 48) * 8 + (nth m 3 - 48)).toUInt8, 3) else (0, 0) : UInt8 × Nat).2 + 1
      by_cases h3 : 48 ≤ nth m 1 ∧ nth m 1 ≤ 51 ∧ 48 ≤ nth m 2 ∧ nth m 2 ≤ 55 ∧ 48 ≤ nth m 3 ∧ nth m 3 ≤ 55
      · have h4 : 48 ≤ nth m 1 ∧ nth m 1 ≤ 55 ∧ 48 ≤ nth m 2 ∧ nth m 2 ≤ 55 ∧ 48 ≤ nth m 3 ∧ nth m 3 ≤ 55 ∧ (nth m 1 - 48) * 64 + (nth m 2 - 48) * 8 + (nth m 3 - 48) ≤ 255 := by omega
        rw [if_pos ⟨h, h3⟩, if_pos h4]
        exact ⟨rfl, rfl⟩
      · have h4 : ¬ (48 ≤ nth m 1 ∧ nth m 1 ≤ 55 ∧ 48 ≤ nth m 2 ∧ nth m 2 ≤ 55 ∧ 48 ≤ nth m 3 ∧ nth m 3 ≤ 55 ∧ (nth m 1 - 48) * 64 + (nth m 2 - 48) * 8 + (nth m 3 - 48) ≤ 255) := by omega
        rw [if_neg (fun x => h3 x.2), if_neg h4]
        exact ⟨rfl, rfl⟩
theorem rdE_no {m : Bytes} (h : nth m 0 ≠ 92) : (rdE m).2 = 0 := by
  unfold rdE
  rw [if_neg (fun x => h x.1), if_neg (fun x => h x.1), if_neg (fun x => h x.1)]
theorem on_le (l : Bytes) : (onP l).2 ≤ l.length := by
  unfold onP
  repeat' split
  · rename_i h; have := nth_in (l := l) (i := 0) (by omega); dsimp only; omega
  · rename_i h; have := nth_in (l := l) (i := 0) (by omega); dsimp only; omega
  · rename_i h; have := nth_in (l := l) (i := 2) (by omega); dsimp only; omega
  · simp

theorem align (l : Bytes) : ∀ i, i < l.length → nth l i < 128 → (kindsP l).drop (i + 1) = kindsP (l.drop (i + 1)) := by
  refine by_drop (P := fun l => ∀ i, i < l.length → nth l i < 128 → (kindsP l).drop (i + 1) = kindsP (l.drop (i + 1))) ?_ ?_ l
  · intro i hi; simp at hi
  · intro l hl ih i hi hn
    have hb := sz_bd l
    have hle := sz_le l hl
    rw [kindsP_step hl]
    by_cases h1 : i < sz l
    · have hs : sz l = 1 := by
        apply Classical.byContradiction
        intro h2
        have := multi_high (l := l) (by omega) i h1
        omega
      obtain rfl : i = 0 := by omega
      rw [hs]
      rfl
    · have := ih (i - sz l) (by rw [List.length_drop]; omega) (by rw [nth_drop]; rw [show sz l + (i - sz l) = i by omega]; exact hn)
      have e : i + 1 = sz l + (i - sz l + 1) := by omega
      obtain ⟨m, hm⟩ : ∃ m, i - sz l + 1 = m := ⟨_, rfl⟩
      rw [hm] at this e
      have e2 : (List.replicate (sz l) (rk (l.take (sz l))) ++ kindsP (l.drop (sz l))).drop (sz l + m) = (kindsP (l.drop (sz l))).drop m := by
        rw [← List.drop_drop, List.drop_left' (by rw [List.length_replicate])]
      rw [e, e2, this, List.drop_drop]

/-- At place i the characters stand as the kinds say, but for m bytes that are left of a plain one. -/
def Z0 (l : Bytes) (ks : List Nat) (i m : Nat) : Prop := ks.drop i = List.replicate m 1 ++ kindsP (l.drop (i + m)) ∧ (∀ b ∈ (l.drop i).take m, 128 ≤ b.toNat) ∧ i + m ≤ l.length
theorem z_start (l : Bytes) : Z0 l (kindsP l) 0 0 := ⟨by simp, by simp, by omega⟩
theorem z_align {l : Bytes} {i : Nat} (hi : i < l.length) (hn : nth l i < 128) : Z0 l (kindsP l) (i + 1) 0 := ⟨by rw [align l i hi hn]; simp, by simp, by omega⟩
theorem at_drop {ks : List Nat} {i x : Nat} {r : List Nat} (h : ks.drop i = x :: r) (hi : i < ks.length) : ks[i]'hi = x ∧ ks.drop (i + 1) = r := by
  rw [List.drop_eq_getElem_cons hi] at h
  injection h with h1 h2
  exact ⟨h1, h2⟩
theorem drop_cons {l : Bytes} {i : Nat} (hi : i < l.length) : l.drop i = l[i]'hi :: l.drop (i + 1) := List.drop_eq_getElem_cons hi
theorem nth_get {l : Bytes} {i : Nat} (hi : i < l.length) : nth l i = (l[i]'hi).toNat := by
  unfold nth
  rw [List.getD_eq_getElem?_getD, List.getElem?_eq_getElem hi]
  rfl
theorem z_mid {l : Bytes} {ks : List Nat} {i m : Nat} (h : Z0 l ks i (m + 1)) (hi : i < ks.length) (hl : i < l.length) : ks[i]'hi = 1 ∧ 128 ≤ nth l i ∧ Z0 l ks (i + 1) m := by
  obtain ⟨h1, h2, h3⟩ := h
  rw [List.replicate_succ, List.cons_append] at h1
  obtain ⟨e1, e2⟩ := at_drop h1 hi
  rw [drop_cons hl, List.take_succ_cons] at h2
  refine ⟨e1, by rw [nth_get hl]; exact h2 _ (by simp), ?_, fun b hb => h2 b (by simp [hb]), by omega⟩
  rw [e2, show i + 1 + m = i + (m + 1) by omega]
theorem z_char {l : Bytes} {ks : List Nat} {i : Nat} (h : Z0 l ks i 0) (hi : i < ks.length) (hl : i < l.length) :
    ks[i]'hi = rk ((l.drop i).take (sz (l.drop i))) ∧ (rk ((l.drop i).take (sz (l.drop i))) = 1 → Z0 l ks (i + 1) (sz (l.drop i) - 1)) := by
  obtain ⟨h1, _, h3⟩ := h
  have hne : l.drop i ≠ [] := drop_ne hl
  have hb := sz_bd (l.drop i)
  have hle := sz_le _ hne
  rw [List.length_drop] at hle
  rw [List.replicate_zero, List.nil_append, Nat.add_zero, kindsP_step hne] at h1
  obtain ⟨K, hK⟩ : ∃ K, sz (l.drop i) = K + 1 := ⟨sz (l.drop i) - 1, by omega⟩
  rw [hK, List.replicate_succ, List.cons_append] at h1
  obtain ⟨e1, e2⟩ := at_drop h1 hi
  rw [hK]
  refine ⟨e1, fun hr => ?_⟩
  rw [hr] at e2
  refine ⟨?_, ?_, by omega⟩
  · rw [e2, List.drop_drop, show i + 1 + (K + 1 - 1) = i + (K + 1) by omega]
    rfl
  · intro b hb'
    rw [show K + 1 - 1 = K by omega] at hb'
    obtain ⟨j, hj, rfl⟩ := List.mem_iff_getElem.1 hb'
    rw [List.length_take, List.length_drop] at hj
    have hj2 : 1 < sz (l.drop i) := by omega
    have := multi_high hj2 (j + 1) (by omega)
    rw [nth_drop] at this
    rw [List.getElem_take, List.getElem_drop]
    have e3 : i + (j + 1) = i + 1 + j := by omega
    rw [e3, nth_get (by omega)] at this
    exact this
theorem rk_plain {c : Bytes} : rk c = 1 ↔ kc c = 0 := by
  unfold rk
  by_cases h1 : kc c = 1
  · rw [if_pos h1, h1]; decide
  · rw [if_neg h1]
    by_cases h0 : kc c = 0
    · rw [if_pos h0, h0]; decide
    · rw [if_neg h0]; exact Iff.intro (fun h => absurd h (by decide)) (fun h => absurd h h0)

theorem cIn_last : ∀ (n : Nat) (x : Bytes), x.length = n → cIn x ≠ none → ∃ y, x = y ++ [34] := by
  intro n
  induction n using Nat.strongRecOn with
  | _ n ih =>
    intro x hx h
    by_cases hl : x = []
    · subst hl; exact absurd cIn_nil h
    · have h0 : 0 < x.length := List.length_pos_iff.2 hl
      have more : ∀ k, 0 < k → cIn (x.drop k) ≠ none → ∃ y, x = y ++ [34] := fun k hk hn => by
        obtain ⟨y, hy⟩ := ih _ (by rw [List.length_drop]; omega) (x.drop k) rfl hn
        refine ⟨x.take k ++ y, ?_⟩
        rw [List.append_assoc, ← hy, List.take_append_drop]
      have un : ∀ (o : Option Bytes) (f : Bytes → Bytes), o.map f ≠ none → o ≠ none := fun o f hn e => hn (by rw [e]; rfl)
      by_cases h34 : nth x 0 = 34
      · rw [cIn_q h34] at h
        by_cases hd : x.drop 1 = []
        · refine ⟨[], ?_⟩
          cases x with
          | nil => exact absurd rfl hl
          | cons b r =>
            have : b = 34 := (toNat_eq (by decide)).1 h34
            rw [this, show r = [] from hd]
            rfl
        · rw [if_neg hd] at h; exact absurd rfl h
      · by_cases h92 : nth x 0 = 92
        · by_cases h1 : nth x 1 = 34 ∨ nth x 1 = 92
          · rw [cIn_b h92 h1] at h
            exact more 2 (by omega) (un _ _ h)
          · by_cases h2 : (rdE x).2 = 0
            · rw [cIn_x h92 h1 h2] at h; exact absurd rfl h
            · rw [cIn_e h92 h1 h2] at h
              exact more _ (by omega) (un _ _ h)
        · rw [cIn_p hl h34 h92] at h
          exact more 1 (by omega) (un _ _ h)
theorem cP_short {l : Bytes} (h : l.length < 2) : cP l = none := by
  unfold cP
  split
  · match l, h with
    | [], _ => exact cIn_nil
    | [b], _ => exact cIn_nil
  · rfl
theorem cP_last {l : Bytes} {n : Nat} (hn : l.length = n + 2) (h : nth l (n + 1) ≠ 34) : cP l = none := by
  apply Classical.byContradiction
  intro hc
  have h34 : nth l 0 = 34 := by
    apply Classical.byContradiction
    intro e
    apply hc
    unfold cP
    rw [if_neg e]
  unfold cP at hc
  rw [if_pos h34] at hc
  obtain ⟨y, hy⟩ := cIn_last _ _ rfl hc
  have hlen := congrArg List.length hy
  rw [List.length_drop, List.length_append, hn] at hlen
  simp only [List.length_cons, List.length_nil] at hlen
  have : nth (l.drop 1) n = 34 := by
    rw [hy, nth_get (by rw [List.length_append]; simp; omega)]
    rw [List.getElem_append_right (by omega)]
    simp
  rw [nth_drop, Nat.add_comm] at this
  exact h this
theorem on_34 (x : Bytes) : onP (x ++ [34]) = onP x := by
  have e : ∀ i, nth (x ++ [34]) i = nth x i ∨ (nth (x ++ [34]) i = 34 ∧ nth x i = 0) ∨ (nth (x ++ [34]) i = 0 ∧ nth x i = 0) := fun i => by
    by_cases h : i < x.length
    · left; exact nth_app x [34] i h
    · have h2 : nth x i = 0 := nth_beyond (by omega)
      by_cases h3 : i = x.length
      · right; left
        refine ⟨?_, h2⟩
        subst h3
        unfold nth
        rw [List.getD_eq_getElem?_getD, List.getElem?_append_right (Nat.le_refl _)]
        simp
      · right; right
        exact ⟨nth_beyond (by rw [List.length_append]; simp; omega), h2⟩
  have e0 := e 0
  have e1 := e 1
  have e2 := e 2
  unfold onP
  generalize nth (x ++ [34]) 0 = a0 at *
  generalize nth (x ++ [34]) 1 = a1 at *
  generalize nth (x ++ [34]) 2 = a2 at *
  generalize nth x 0 = b0 at *
  generalize nth x 1 = b1 at *
  generalize nth x 2 = b2 at *
  by_cases h0 : a0 = b0
  · subst h0
    by_cases h1 : a1 = b1
    · subst h1
      by_cases h2 : a2 = b2
      · subst h2; rfl
      · have c1 : ¬ (48 ≤ a0 ∧ a0 ≤ 55 ∧ 48 ≤ a1 ∧ a1 ≤ 55 ∧ 48 ≤ a2 ∧ a2 ≤ 55 ∧ (a0 - 48) * 64 + (a1 - 48) * 8 + (a2 - 48) ≤ 255) := by omega
        have c2 : ¬ (48 ≤ a0 ∧ a0 ≤ 55 ∧ 48 ≤ a1 ∧ a1 ≤ 55 ∧ 48 ≤ b2 ∧ b2 ≤ 55 ∧ (a0 - 48) * 64 + (a1 - 48) * 8 + (b2 - 48) ≤ 255) := by omega
        rw [if_neg c1, if_neg c2]
    · have c1 : ¬ (48 ≤ a0 ∧ a0 ≤ 55 ∧ 48 ≤ a1 ∧ a1 ≤ 55 ∧ 48 ≤ a2 ∧ a2 ≤ 55 ∧ (a0 - 48) * 64 + (a1 - 48) * 8 + (a2 - 48) ≤ 255) := by omega
      have c2 : ¬ (48 ≤ a0 ∧ a0 ≤ 55 ∧ 48 ≤ b1 ∧ b1 ≤ 55 ∧ 48 ≤ b2 ∧ b2 ≤ 55 ∧ (a0 - 48) * 64 + (b1 - 48) * 8 + (b2 - 48) ≤ 255) := by omega
      rw [if_neg c1, if_neg c2]
  · have c1 : ¬ (48 ≤ a0 ∧ a0 ≤ 55 ∧ 48 ≤ a1 ∧ a1 ≤ 55 ∧ 48 ≤ a2 ∧ a2 ≤ 55 ∧ (a0 - 48) * 64 + (a1 - 48) * 8 + (a2 - 48) ≤ 255) := by omega
    have c2 : ¬ (48 ≤ b0 ∧ b0 ≤ 55 ∧ 48 ≤ b1 ∧ b1 ≤ 55 ∧ 48 ≤ b2 ∧ b2 ≤ 55 ∧ (b0 - 48) * 64 + (b1 - 48) * 8 + (b2 - 48) ≤ 255) := by omega
    rw [if_neg c1, if_neg c2, if_neg (by omega), if_neg (by omega), if_neg (by omega), if_neg (by omega)]
end Go.Proofs.YtlilnljneakngaaDoor
