/-
  Plain facts: what is quoted with escapes, or as C, has no hard byte. Conditions: none.
  Plain facts on the reference's readers. Conditions: none.
  Plain facts on the reference's way to quote: byte by byte it comes to the same. Conditions: none.
  What the reference's Escape and Always return. Conditions: the text has at most 1000000 bytes.
  How a slice of numbers that a call has made lies in memory. Conditions: each fact's own.
-/
import Derived.Test.YtigkdehaepenhaaGreatDoorFQKindsW
import Derived.Test.YtigkdehaepenhaaGreatDoorFQC
set_option linter.unusedSimpArgs false
set_option linter.unusedVariables false
namespace Go.Proofs.YtigkdehaepenhaaGreatDoor.Q

def Clean (l : Bytes) : Prop := ∀ c ∈ chunks l, kc c ≠ 1
theorem clean_nil : Clean [] := by unfold Clean; rw [chunks_nil]; simp
theorem kb_ne {n : Nat} (h : kb n ≠ 1) : 32 ≤ n ∧ n < 127 := by
  apply Classical.byContradiction
  intro hn
  apply h
  unfold kb
  rw [if_pos (by omega)]
theorem kb_ok {n : Nat} (h1 : 32 ≤ n) (h2 : n < 127) : kb n ≠ 1 := by
  unfold kb
  rw [if_neg (by omega)]
  split <;> decide
theorem clean_cons {b : UInt8} {r : Bytes} (h1 : 32 ≤ b.toNat) (h2 : b.toNat < 127) (hr : Clean r) : Clean (b :: r) := by
  unfold Clean
  rw [chunks_ascii b r (by omega)]
  intro c hc
  rcases List.mem_cons.1 hc with rfl | hc
  · exact kb_ok h1 h2
  · exact hr c hc
theorem clean_list {p r : Bytes} (hp : ∀ b ∈ p, 32 ≤ b.toNat ∧ b.toNat < 127) (hr : Clean r) : Clean (p ++ r) := by
  induction p with
  | nil => exact hr
  | cons b p ih =>
    have hb := hp b (by simp)
    exact clean_cons hb.1 hb.2 (ih (fun x hx => hp x (by simp [hx])))
theorem clean_chr {c r : Bytes} (hc : Chr c) (hh : hardC c = false) (hr : Clean r) : Clean (c ++ r) := by
  rcases hc with ⟨b, rfl⟩ | ⟨h2, hs, _⟩
  · have hb : kb b.toNat ≠ 1 := by
      intro e
      have : hardC [b] = (kb b.toNat == 1) := rfl
      rw [this, e] at hh
      cases hh
    have := kb_ne hb
    exact clean_cons this.1 this.2 hr
  · unfold Clean
    rw [chunks_multi h2 hs r]
    intro c' hc'
    rcases List.mem_cons.1 hc' with rfl | hc'
    · rw [kc_multi h2]; decide
    · exact hr c' hc'
theorem esc_ascii (b : UInt8) : ∀ x ∈ esc b, 32 ≤ x.toNat ∧ x.toNat < 127 := by
  intro x hx
  have hb := b.toNat_lt
  have d1 : (48 + b / 64 : UInt8).toNat = 48 + b.toNat / 64 := by
    rw [UInt8.toNat_add, UInt8.toNat_div]; show (48 + b.toNat / 64) % 256 = _; omega
  have d2 : (48 + b / 8 % 8 : UInt8).toNat = 48 + b.toNat / 8 % 8 := by
    rw [UInt8.toNat_add, UInt8.toNat_mod, UInt8.toNat_div]; show (48 + b.toNat / 8 % 8) % 256 = _; omega
  have d3 : (48 + b % 8 : UInt8).toNat = 48 + b.toNat % 8 := by
    rw [UInt8.toNat_add, UInt8.toNat_mod]; show (48 + b.toNat % 8) % 256 = _; omega
  unfold esc at hx
  split at hx
  · simp only [List.mem_cons, List.not_mem_nil, or_false] at hx
    rcases hx with rfl | rfl <;> decide
  · split at hx
    · simp only [List.mem_cons, List.not_mem_nil, or_false] at hx
      rcases hx with rfl | rfl <;> decide
    · simp only [List.mem_cons, List.not_mem_nil, or_false] at hx
      rcases hx with rfl | rfl | rfl | rfl
      · decide
      · rw [d1]; omega
      · rw [d2]; omega
      · rw [d3]; omega
theorem clean_escs {l r : Bytes} (hr : Clean r) : Clean (l.flatMap esc ++ r) := by
  refine clean_list ?_ hr
  intro x hx
  obtain ⟨b, _, hb⟩ := List.mem_flatMap.1 hx
  exact esc_ascii b x hb
theorem clean_hardS {l r : Bytes} (hr : Clean r) : Clean (hardS l ++ r) := by
  unfold hardS
  refine clean_cons (by decide) (by decide) (clean_cons (by decide) (by decide) ?_)
  show Clean (l.flatMap esc ++ [39] ++ r)
  rw [List.append_assoc]
  exact clean_escs (clean_cons (by decide) (by decide) hr)
theorem qb_high : ∀ {c : Bytes}, (∀ b ∈ c, 128 ≤ b.toNat) → c.flatMap qb = c := fun {c} h => qb_none (fun hm => absurd (h 39 hm) (by decide))
theorem clean_qb {cs : List Bytes} (hc : ∀ c ∈ cs, Chr c ∧ hardC c = false) {r : Bytes} (hr : Clean r) : Clean (cs.flatten.flatMap qb ++ r) := by
  induction cs with
  | nil => exact hr
  | cons c cs ih =>
    obtain ⟨h1, h2⟩ := hc c (by simp)
    have ih' := ih (fun x hx => hc x (by simp [hx]))
    rw [List.flatten_cons, List.flatMap_append, List.append_assoc]
    rcases h1 with ⟨b, rfl⟩ | ⟨hl, hs, hi⟩
    · by_cases hb : b = 39
      · subst hb
        exact clean_cons (by decide) (by decide) (clean_cons (by decide) (by decide) (clean_cons (by decide) (by decide) (clean_cons (by decide) (by decide) ih')))
      · have e : [b].flatMap qb = [b] := by simp [qb, hb]
        rw [e]
        exact clean_chr (.inl ⟨b, rfl⟩) h2 ih'
    · rw [qb_high hi]
      exact clean_chr (.inr ⟨hl, hs, hi⟩) h2 ih'
theorem clean_bt {cs : List Bytes} (hc : ∀ c ∈ cs, Chr c ∧ hardC c = false) {r : Bytes} (hr : Clean r) : Clean (bt cs.flatten ++ r) := by
  unfold bt
  refine clean_cons (by decide) (by decide) ?_
  show Clean (cs.flatten.flatMap qb ++ [39] ++ r)
  rw [List.append_assoc]
  exact clean_qb hc (clean_cons (by decide) (by decide) hr)
theorem mem_takeWhile {α : Type} {p : α → Bool} : ∀ {l : List α} {x : α}, x ∈ l.takeWhile p → p x = true
  | [], _, h => by cases h
  | a :: l, x, h => by
    rw [List.takeWhile_cons] at h
    split at h
    · rcases List.mem_cons.1 h with rfl | h
      · assumption
      · exact mem_takeWhile h
    · cases h
theorem clean_str (l : Bytes) : Clean (strP (chunks l)) := by
  obtain ⟨n, hn⟩ : ∃ n, l.length = n := ⟨_, rfl⟩
  induction n using Nat.strongRecOn generalizing l with
  | _ n ih =>
    by_cases hl : l = []
    · subst hl; rw [chunks_nil, strP_nil]; exact clean_nil
    · obtain ⟨n1, h1⟩ : ∃ n1, runP false l = n1 := ⟨_, rfl⟩
      obtain ⟨n2, h2⟩ : ∃ n2, runP true (l.drop n1) = n2 := ⟨_, rfl⟩
      have a3 : n1 = 0 → 0 < n2 := fun h0 => by rw [← h2, h0, List.drop_zero]; exact run_some hl (by rw [h1, h0])
      have h0 : 0 < l.length := List.length_pos_iff.2 hl
      rw [strP_at hl h1 h2]
      have i1 := ih _ (by rw [← hn, List.length_drop, List.length_drop]; omega) ((l.drop n1).drop n2) rfl
      have e2 : Clean ((if n2 = 0 then [] else hardS ((l.drop n1).take n2)) ++ strP (chunks ((l.drop n1).drop n2))) := by
        split
        · exact i1
        · exact clean_hardS i1
      split
      · exact e2
      · rw [← h1, run_take]
        rw [← h1] at e2
        refine clean_bt ?_ e2
        intro c hc
        have h3 := mem_takeWhile hc
        exact ⟨chunks_chr l c ((List.takeWhile_sublist _).subset hc), by simpa using h3⟩
theorem soft_all {l : Bytes} (h : hasHard l = false) : ∀ c ∈ chunks l, hardC c = false := by
  unfold hasHard at h
  rw [List.any_eq_false] at h
  intro c hc
  simpa using h c hc
theorem clean_bare {l : Bytes} (h : hasHard l = false) : Clean (bareP l) := by
  have hs := soft_all h
  unfold bareP
  split
  · intro c hc e
    have := hs c hc
    unfold hardC at this
    rw [e] at this
    cases this
  · have := clean_bt (cs := chunks l) (fun c hc => ⟨chunks_chr l c hc, hs c hc⟩) clean_nil
    rw [chunks_flat, List.append_nil] at this
    exact this
theorem clean3 (l : Bytes) : Clean (quoteP 3 l) := by
  show Clean (if hasHard l then strP (chunks l) else bareP l)
  split
  · exact clean_str l
  · rename_i h
    exact clean_bare (by simpa using h)
theorem clean_bsC {sign : UInt8} (h1 : 32 ≤ sign.toNat) (h2 : sign.toNat < 127) {c r : Bytes} (hc : Chr c) (hr : Clean r) : Clean (bsC sign c ++ r) := by
  cases hh : hardC c with
  | true =>
    obtain ⟨b, rfl⟩ := hardC_one hc hh
    have e : bsC sign [b] = esc b := by simp only [bsC, hh, if_true]
    rw [e]
    exact clean_list (esc_ascii b) hr
  | false =>
    match c, hc.ne with
    | b :: q, _ =>
      by_cases hs : b = 92 ∨ b = sign
      · have e : bsC sign (b :: q) = [92, b] := by simp only [bsC]; rw [hh, if_neg (by decide), if_pos hs]
        rw [e]
        have hb : 32 ≤ b.toNat ∧ b.toNat < 127 := by
          rcases hs with rfl | rfl
          · decide
          · exact ⟨h1, h2⟩
        exact clean_cons (by decide) (by decide) (clean_cons hb.1 hb.2 hr)
      · have e : bsC sign (b :: q) = b :: q := by simp only [bsC]; rw [hh, if_neg (by decide), if_neg hs]
        rw [e]
        exact clean_chr hc hh hr
theorem clean_bs {sign : UInt8} (h1 : 32 ≤ sign.toNat) (h2 : sign.toNat < 127) {r : Bytes} (hr : Clean r) : ∀ (cs : List Bytes), (∀ c ∈ cs, Chr c) → Clean (cs.flatMap (bsC sign) ++ r)
  | [], _ => hr
  | c :: cs, hc => by
    rw [List.flatMap_cons, List.append_assoc]
    exact clean_bsC h1 h2 (hc c (by simp)) (clean_bs h1 h2 hr cs (fun x hx => hc x (by simp [hx])))
theorem clean4 (l : Bytes) : Clean (quoteP 4 l) := by
  show Clean (34 :: (bsP 34 l ++ [34]))
  exact clean_cons (by decide) (by decide) (clean_bs (by decide) (by decide) (clean_cons (by decide) (by decide) clean_nil) _ (chunks_chr l))
theorem clean5 (l : Bytes) : Clean (quoteP 5 l) := by
  show Clean (bsP 32 l)
  have := clean_bs (sign := 32) (by decide) (by decide) clean_nil _ (chunks_chr l)
  rw [List.append_nil] at this
  exact this
theorem clean_kinds {l : Bytes} (h : Clean l) : ∀ k ∈ kindsP l, k ≠ 2 := by
  intro k hk
  unfold kindsP at hk
  obtain ⟨c, hc, hm⟩ := List.mem_flatMap.1 hk
  have := List.eq_of_mem_replicate hm
  rw [this]
  unfold rk
  rw [if_neg (h c hc)]
  split <;> decide
theorem clean_styles (i : Int) (h3 : 3 ≤ i) (h5 : i ≤ 5) (l : Bytes) : ∀ k ∈ kindsP (quoteP i l), k ≠ 2 := by
  have : i = 3 ∨ i = 4 ∨ i = 5 := by omega
  rcases this with rfl | rfl | rfl
  · exact clean_kinds (clean3 l)
  · exact clean_kinds (clean4 l)
  · exact clean_kinds (clean5 l)
end Go.Proofs.YtigkdehaepenhaaGreatDoor.Q

namespace Go.Proofs.YtigkdehaepenhaaGreatDoor.Q

/-- The escape behind a backslash, as the reference reads it. -/
def onP (l : Bytes) : UInt8 × Nat :=
  if nth l 0 = 110 then (10, 1) else if nth l 0 = 116 then (9, 1)
  else if 48 ≤ nth l 0 ∧ nth l 0 ≤ 55 ∧ 48 ≤ nth l 1 ∧ nth l 1 ≤ 55 ∧ 48 ≤ nth l 2 ∧ nth l 2 ≤ 55 ∧ (nth l 0 - 48) * 64 + (nth l 1 - 48) * 8 + (nth l 2 - 48) ≤ 255
  then (((nth l 0 - 48) * 64 + (nth l 1 - 48) * 8 + (nth l 2 - 48)).toUInt8, 3) else (0, 0)
theorem nth_drop (l : Bytes) (i j : Nat) : nth (l.drop i) j = nth l (i + j) := by
  unfold nth
  rw [List.getD_eq_getElem?_getD, List.getD_eq_getElem?_getD, List.getElem?_drop]
theorem rdE_on {m : Bytes} (h : nth m 0 = 92) : (rdE m).1 = (onP (m.drop 1)).1 ∧ (rdE m).2 = if (onP (m.drop 1)).2 = 0 then 0 else (onP (m.drop 1)).2 + 1 := by
  unfold rdE onP
  rw [nth_drop, nth_drop, nth_drop]
  by_cases h1 : nth m 1 = 110
  · rw [if_pos ⟨h, h1⟩, if_pos h1]; exact ⟨rfl, rfl⟩
  · rw [if_neg (fun x => h1 x.2), if_neg (show ¬ nth m (1 + 0) = 110 from h1)]
    by_cases h2 : nth m 1 = 116
    · rw [if_pos ⟨h, h2⟩, if_pos (show nth m (1 + 0) = 116 from h2)]; exact ⟨rfl, rfl⟩
    · rw [if_neg (fun x => h2 x.2), if_neg (show ¬ nth m (1 + 0) = 116 from h2)]
      show (if _ then _ else _ : UInt8 × Nat).1 = (if 48 ≤ nth m 1 ∧ nth m 1 ≤ 55 ∧ 48 ≤ nth m 2 ∧ nth m 2 ≤ 55 ∧ 48 ≤ nth m 3 ∧ nth m 3 ≤ 55 ∧ (nth m 1 - 48) * 64 + (nth m 2 - 48) * 8 + (nth m 3 - 48) ≤ 255
        then (((nth m 1 - 48) * 64 + (nth m 2 - 48) * 8 + (nth m 3 - 48)).toUInt8, 3) else (0, 0) : UInt8 × Nat).1 ∧ (if _ then _ else _ : UInt8 × Nat).2 = if (if 48 ≤ nth m 1 ∧ nth m 1 ≤ 55 ∧ 48 ≤ nth m 2 ∧ nth m 2 ≤ 55 ∧ 48 ≤ nth m 3 ∧ nth m 3 ≤ 55 ∧ (nth m 1 - 48) * 64 + (nth m 2 - 48) * 8 + (nth m 3 - 48) ≤ 255
        then (((nth m 1 - 48) * 64 + (nth m 2 - 48) * 8 + (nth m 3 - 48)).toUInt8, 3) else (0, 0) : UInt8 × Nat).2 = 0 then 0 else (if 48 ≤ nth m 1 ∧ nth m 1 ≤ 55 ∧ 48 ≤ nth m 2 ∧ nth m 2 ≤ 55 ∧ 48 ≤ nth m 3 ∧ nth m 3 ≤ 55 ∧ (nth m 1 - 48) * 64 + (nth m 2 - 48) * 8 + (nth m 3 - 48) ≤ 255
        then (((nth m 1 - 48) * 64 + (nth m 2 - 48) * 8 + (nth m 3 - 48)).toUInt8, 3) else (0, 0) : UInt8 × Nat).2 + 1
      by_cases h3 : 48 ≤ nth m 1 ∧ nth m 1 ≤ 51 ∧ 48 ≤ nth m 2 ∧ nth m 2 ≤ 55 ∧ 48 ≤ nth m 3 ∧ nth m 3 ≤ 55
      · have h4 : 48 ≤ nth m 1 ∧ nth m 1 ≤ 55 ∧ 48 ≤ nth m 2 ∧ nth m 2 ≤ 55 ∧ 48 ≤ nth m 3 ∧ nth m 3 ≤ 55 ∧ (nth m 1 - 48) * 64 + (nth m 2 - 48) * 8 + (nth m 3 - 48) ≤ 255 := by omega
        rw [if_pos ⟨h, h3⟩, if_pos h4]
        exact ⟨rfl, rfl⟩
      · have h4 : ¬ (48 ≤ nth m 1 ∧ nth m 1 ≤ 55 ∧ 48 ≤ nth m 2 ∧ nth m 2 ≤ 55 ∧ 48 ≤ nth m 3 ∧ nth m 3 ≤ 55 ∧ (nth m 1 - 48) * 64 + (nth m 2 - 48) * 8 + (nth m 3 - 48) ≤ 255) := by omega
        rw [if_neg (fun x => h3 x.2), if_neg h4]
        exact ⟨rfl, rfl⟩
theorem rdE_no {m : Bytes} (h : nth m 0 ≠ 92) : (rdE m).2 = 0 := by
  unfold rdE
  rw [if_neg (fun x => h x.1), if_neg (fun x => h x.1), if_neg (fun x => h x.1)]
theorem on_le (l : Bytes) : (onP l).2 ≤ l.length := by
  unfold onP
  repeat' split
  · rename_i h; have := nth_in (l := l) (i := 0) (by omega); dsimp only; omega
  · rename_i h; have := nth_in (l := l) (i := 0) (by omega); dsimp only; omega
  · rename_i h; have := nth_in (l := l) (i := 2) (by omega); dsimp only; omega
  · simp

theorem align (l : Bytes) : ∀ i, i < l.length → nth l i < 128 → (kindsP l).drop (i + 1) = kindsP (l.drop (i + 1)) := by
  refine by_drop (P := fun l => ∀ i, i < l.length → nth l i < 128 → (kindsP l).drop (i + 1) = kindsP (l.drop (i + 1))) ?_ ?_ l
  · intro i hi; simp at hi
  · intro l hl ih i hi hn
    have hb := sz_bd l
    have hle := sz_le l hl
    rw [kindsP_step hl]
    by_cases h1 : i < sz l
    · have hs : sz l = 1 := by
        apply Classical.byContradiction
        intro h2
        have := multi_high (l := l) (by omega) i h1
        omega
      obtain rfl : i = 0 := by omega
      rw [hs]
      rfl
    · have := ih (i - sz l) (by rw [List.length_drop]; omega) (by rw [nth_drop]; rw [show sz l + (i - sz l) = i by omega]; exact hn)
      have e : i + 1 = sz l + (i - sz l + 1) := by omega
      obtain ⟨m, hm⟩ : ∃ m, i - sz l + 1 = m := ⟨_, rfl⟩
      rw [hm] at this e
      have e2 : (List.replicate (sz l) (rk (l.take (sz l))) ++ kindsP (l.drop (sz l))).drop (sz l + m) = (kindsP (l.drop (sz l))).drop m := by
        rw [← List.drop_drop, List.drop_left' (by rw [List.length_replicate])]
      rw [e, e2, this, List.drop_drop]

/-- At place i the characters stand as the kinds say, but for m bytes that are left of a plain one. -/
def Z0 (l : Bytes) (ks : List Nat) (i m : Nat) : Prop := ks.drop i = List.replicate m 1 ++ kindsP (l.drop (i + m)) ∧ (∀ b ∈ (l.drop i).take m, 128 ≤ b.toNat) ∧ i + m ≤ l.length
theorem z_start (l : Bytes) : Z0 l (kindsP l) 0 0 := ⟨by simp, by simp, by omega⟩
theorem z_align {l : Bytes} {i : Nat} (hi : i < l.length) (hn : nth l i < 128) : Z0 l (kindsP l) (i + 1) 0 := ⟨by rw [align l i hi hn]; simp, by simp, by omega⟩
theorem at_drop {ks : List Nat} {i x : Nat} {r : List Nat} (h : ks.drop i = x :: r) (hi : i < ks.length) : ks[i]'hi = x ∧ ks.drop (i + 1) = r := by
  rw [List.drop_eq_getElem_cons hi] at h
  injection h with h1 h2
  exact ⟨h1, h2⟩
theorem drop_cons {l : Bytes} {i : Nat} (hi : i < l.length) : l.drop i = l[i]'hi :: l.drop (i + 1) := List.drop_eq_getElem_cons hi
theorem nth_get {l : Bytes} {i : Nat} (hi : i < l.length) : nth l i = (l[i]'hi).toNat := by
  unfold nth
  rw [List.getD_eq_getElem?_getD, List.getElem?_eq_getElem hi]
  rfl
theorem z_mid {l : Bytes} {ks : List Nat} {i m : Nat} (h : Z0 l ks i (m + 1)) (hi : i < ks.length) (hl : i < l.length) : ks[i]'hi = 1 ∧ 128 ≤ nth l i ∧ Z0 l ks (i + 1) m := by
  obtain ⟨h1, h2, h3⟩ := h
  rw [List.replicate_succ, List.cons_append] at h1
  obtain ⟨e1, e2⟩ := at_drop h1 hi
  rw [drop_cons hl, List.take_succ_cons] at h2
  refine ⟨e1, by rw [nth_get hl]; exact h2 _ (by simp), ?_, fun b hb => h2 b (by simp [hb]), by omega⟩
  rw [e2, show i + 1 + m = i + (m + 1) by omega]
theorem z_char {l : Bytes} {ks : List Nat} {i : Nat} (h : Z0 l ks i 0) (hi : i < ks.length) (hl : i < l.length) :
    ks[i]'hi = rk ((l.drop i).take (sz (l.drop i))) ∧ (rk ((l.drop i).take (sz (l.drop i))) = 1 → Z0 l ks (i + 1) (sz (l.drop i) - 1)) := by
  obtain ⟨h1, _, h3⟩ := h
  have hne : l.drop i ≠ [] := drop_ne hl
  have hb := sz_bd (l.drop i)
  have hle := sz_le _ hne
  rw [List.length_drop] at hle
  rw [List.replicate_zero, List.nil_append, Nat.add_zero, kindsP_step hne] at h1
  obtain ⟨K, hK⟩ : ∃ K, sz (l.drop i) = K + 1 := ⟨sz (l.drop i) - 1, by omega⟩
  rw [hK, List.replicate_succ, List.cons_append] at h1
  obtain ⟨e1, e2⟩ := at_drop h1 hi
  rw [hK]
  refine ⟨e1, fun hr => ?_⟩
  rw [hr] at e2
  refine ⟨?_, ?_, by omega⟩
  · rw [e2, List.drop_drop, show i + 1 + (K + 1 - 1) = i + (K + 1) by omega]
    rfl
  · intro b hb'
    rw [show K + 1 - 1 = K by omega] at hb'
    obtain ⟨j, hj, rfl⟩ := List.mem_iff_getElem.1 hb'
    rw [List.length_take, List.length_drop] at hj
    have hj2 : 1 < sz (l.drop i) := by omega
    have := multi_high hj2 (j + 1) (by omega)
    rw [nth_drop] at this
    rw [List.getElem_take, List.getElem_drop]
    have e3 : i + (j + 1) = i + 1 + j := by omega
    rw [e3, nth_get (by omega)] at this
    exact this
theorem rk_plain {c : Bytes} : rk c = 1 ↔ kc c = 0 := by
  unfold rk
  by_cases h1 : kc c = 1
  · rw [if_pos h1, h1]; decide
  · rw [if_neg h1]
    by_cases h0 : kc c = 0
    · rw [if_pos h0, h0]; decide
    · rw [if_neg h0]; exact Iff.intro (fun h => absurd h (by decide)) (fun h => absurd h h0)

theorem cIn_last : ∀ (n : Nat) (x : Bytes), x.length = n → cIn x ≠ none → ∃ y, x = y ++ [34] := by
  intro n
  induction n using Nat.strongRecOn with
  | _ n ih =>
    intro x hx h
    by_cases hl : x = []
    · subst hl; exact absurd cIn_nil h
    · have h0 : 0 < x.length := List.length_pos_iff.2 hl
      have more : ∀ k, 0 < k → cIn (x.drop k) ≠ none → ∃ y, x = y ++ [34] := fun k hk hn => by
        obtain ⟨y, hy⟩ := ih _ (by rw [List.length_drop]; omega) (x.drop k) rfl hn
        refine ⟨x.take k ++ y, ?_⟩
        rw [List.append_assoc, ← hy, List.take_append_drop]
      have un : ∀ (o : Option Bytes) (f : Bytes → Bytes), o.map f ≠ none → o ≠ none := fun o f hn e => hn (by rw [e]; rfl)
      by_cases h34 : nth x 0 = 34
      · rw [cIn_q h34] at h
        by_cases hd : x.drop 1 = []
        · refine ⟨[], ?_⟩
          cases x with
          | nil => exact absurd rfl hl
          | cons b r =>
            have : b = 34 := (toNat_eq (by decide)).1 h34
            rw [this, show r = [] from hd]
            rfl
        · rw [if_neg hd] at h; exact absurd rfl h
      · by_cases h92 : nth x 0 = 92
        · by_cases h1 : nth x 1 = 34 ∨ nth x 1 = 92
          · rw [cIn_b h92 h1] at h
            exact more 2 (by omega) (un _ _ h)
          · by_cases h2 : (rdE x).2 = 0
            · rw [cIn_x h92 h1 h2] at h; exact absurd rfl h
            · rw [cIn_e h92 h1 h2] at h
              exact more _ (by omega) (un _ _ h)
        · rw [cIn_p hl h34 h92] at h
          exact more 1 (by omega) (un _ _ h)
theorem cP_short {l : Bytes} (h : l.length < 2) : cP l = none := by
  unfold cP
  split
  · match l, h with
    | [], _ => exact cIn_nil
    | [b], _ => exact cIn_nil
  · rfl
theorem cP_last {l : Bytes} {n : Nat} (hn : l.length = n + 2) (h : nth l (n + 1) ≠ 34) : cP l = none := by
  apply Classical.byContradiction
  intro hc
  have h34 : nth l 0 = 34 := by
    apply Classical.byContradiction
    intro e
    apply hc
    unfold cP
    rw [if_neg e]
  unfold cP at hc
  rw [if_pos h34] at hc
  obtain ⟨y, hy⟩ := cIn_last _ _ rfl hc
  have hlen := congrArg List.length hy
  rw [List.length_drop, List.length_append, hn] at hlen
  simp only [List.length_cons, List.length_nil] at hlen
  have : nth (l.drop 1) n = 34 := by
    rw [hy, nth_get (by rw [List.length_append]; simp; omega)]
    rw [List.getElem_append_right (by omega)]
    simp
  rw [nth_drop, Nat.add_comm] at this
  exact h this
theorem on_34 (x : Bytes) : onP (x ++ [34]) = onP x := by
  have e : ∀ i, nth (x ++ [34]) i = nth x i ∨ (nth (x ++ [34]) i = 34 ∧ nth x i = 0) ∨ (nth (x ++ [34]) i = 0 ∧ nth x i = 0) := fun i => by
    by_cases h : i < x.length
    · left; exact nth_app x [34] i h
    · have h2 : nth x i = 0 := nth_beyond (by omega)
      by_cases h3 : i = x.length
      · right; left
        refine ⟨?_, h2⟩
        subst h3
        unfold nth
        rw [List.getD_eq_getElem?_getD, List.getElem?_append_right (Nat.le_refl _)]
        simp
      · right; right
        exact ⟨nth_beyond (by rw [List.length_append]; simp; omega), h2⟩
  have e0 := e 0
  have e1 := e 1
  have e2 := e 2
  unfold onP
  generalize nth (x ++ [34]) 0 = a0 at *
  generalize nth (x ++ [34]) 1 = a1 at *
  generalize nth (x ++ [34]) 2 = a2 at *
  generalize nth x 0 = b0 at *
  generalize nth x 1 = b1 at *
  generalize nth x 2 = b2 at *
  by_cases h0 : a0 = b0
  · subst h0
    by_cases h1 : a1 = b1
    · subst h1
      by_cases h2 : a2 = b2
      · subst h2; rfl
      · have c1 : ¬ (48 ≤ a0 ∧ a0 ≤ 55 ∧ 48 ≤ a1 ∧ a1 ≤ 55 ∧ 48 ≤ a2 ∧ a2 ≤ 55 ∧ (a0 - 48) * 64 + (a1 - 48) * 8 + (a2 - 48) ≤ 255) := by omega
        have c2 : ¬ (48 ≤ a0 ∧ a0 ≤ 55 ∧ 48 ≤ a1 ∧ a1 ≤ 55 ∧ 48 ≤ b2 ∧ b2 ≤ 55 ∧ (a0 - 48) * 64 + (a1 - 48) * 8 + (b2 - 48) ≤ 255) := by omega
        rw [if_neg c1, if_neg c2]
    · have c1 : ¬ (48 ≤ a0 ∧ a0 ≤ 55 ∧ 48 ≤ a1 ∧ a1 ≤ 55 ∧ 48 ≤ a2 ∧ a2 ≤ 55 ∧ (a0 - 48) * 64 + (a1 - 48) * 8 + (a2 - 48) ≤ 255) := by omega
      have c2 : ¬ (48 ≤ a0 ∧ a0 ≤ 55 ∧ 48 ≤ b1 ∧ b1 ≤ 55 ∧ 48 ≤ b2 ∧ b2 ≤ 55 ∧ (a0 - 48) * 64 + (b1 - 48) * 8 + (b2 - 48) ≤ 255) := by omega
      rw [if_neg c1, if_neg c2]
  · have c1 : ¬ (48 ≤ a0 ∧ a0 ≤ 55 ∧ 48 ≤ a1 ∧ a1 ≤ 55 ∧ 48 ≤ a2 ∧ a2 ≤ 55 ∧ (a0 - 48) * 64 + (a1 - 48) * 8 + (a2 - 48) ≤ 255) := by omega
    have c2 : ¬ (48 ≤ b0 ∧ b0 ≤ 55 ∧ 48 ≤ b1 ∧ b1 ≤ 55 ∧ 48 ≤ b2 ∧ b2 ≤ 55 ∧ (b0 - 48) * 64 + (b1 - 48) * 8 + (b2 - 48) ≤ 255) := by omega
    rw [if_neg c1, if_neg c2, if_neg (by omega), if_neg (by omega), if_neg (by omega), if_neg (by omega)]
end Go.Proofs.YtigkdehaepenhaaGreatDoor.Q

namespace Go.Proofs.YtigkdehaepenhaaGreatDoor.Q

/-- With backslashes, byte by byte. -/
def bsB (sign : UInt8) (b : UInt8) (k : Nat) : Bytes := if k = 2 then esc b else if b = 92 ∨ b = sign then [92, b] else [b]
def rfB (sign : UInt8) : Bytes → List Nat → Bytes
  | b :: l, k :: ks => bsB sign b k ++ rfB sign l ks
  | _, _ => []
theorem rfB_app (sign : UInt8) : ∀ (c : Bytes) (k1 : List Nat) (r : Bytes) (k2 : List Nat), c.length = k1.length → rfB sign (c ++ r) (k1 ++ k2) = rfB sign c k1 ++ rfB sign r k2
  | [], [], _, _, _ => rfl
  | [], _ :: _, _, _, h => by simp at h
  | _ :: _, [], _, _, h => by simp at h
  | b :: c, k :: k1, r, k2, h => by
    simp only [List.cons_append, rfB, List.append_assoc]
    rw [rfB_app sign c k1 r k2 (by simpa using h)]
theorem rfB_high (sign : UInt8) (hs : sign.toNat < 128) : ∀ (c : Bytes), (∀ b ∈ c, 128 ≤ b.toNat) → rfB sign c (List.replicate c.length 1) = c
  | [], _ => rfl
  | b :: c, h => by
    have hb := h b (by simp)
    simp only [List.length_cons, List.replicate_succ, rfB]
    rw [rfB_high sign hs c (fun x hx => h x (by simp [hx]))]
    unfold bsB
    rw [if_neg (by decide), if_neg]
    · rfl
    · rintro (rfl | rfl)
      · exact absurd hb (by decide)
      · omega
theorem rk_two (c : Bytes) : (rk c = 2) = (hardC c = true) := by
  unfold rk hardC
  apply propext
  by_cases h1 : kc c = 1
  · rw [if_pos h1, h1]; exact ⟨fun _ => rfl, fun _ => rfl⟩
  · rw [if_neg h1]
    have : (kc c == 1) = false := beq_eq_false_iff_ne.2 h1
    rw [this]
    split
    · exact Iff.intro (fun h => absurd h (by decide)) (fun h => by cases h)
    · exact Iff.intro (fun h => absurd h (by decide)) (fun h => by cases h)
theorem rfB_chunk (sign : UInt8) (hs : sign.toNat < 128) {c : Bytes} (hc : Chr c) : rfB sign c (List.replicate c.length (rk c)) = bsC sign c := by
  rcases hc with ⟨b, rfl⟩ | ⟨h2, hz, hi⟩
  · show bsB sign b (rk [b]) ++ [] = _
    rw [List.append_nil]
    unfold bsB
    have h2 := rk_two [b]
    cases hh : hardC [b] with
    | true =>
      rw [hh] at h2
      rw [if_pos (h2.mpr rfl)]
      simp only [bsC, hh, if_true]
    | false =>
      rw [hh] at h2
      rw [if_neg (fun e => by have := h2.mp e; cases this)]
      simp only [bsC]
      rw [hh, if_neg (show ¬ (false = true) by decide)]
  · have hh : hardC c = false := by unfold hardC; rw [kc_multi h2]; rfl
    have hr : rk c = 1 := by unfold rk; rw [kc_multi h2]; rfl
    rw [hr, rfB_high sign hs c hi]
    match c, h2 with
    | b :: q, _ =>
      simp only [bsC]
      have hb := hi b (by simp)
      rw [hh, if_neg (by decide), if_neg]
      rintro (rfl | rfl)
      · exact absurd hb (by decide)
      · omega
theorem rfB_all (sign : UInt8) (hs : sign.toNat < 128) (l : Bytes) : rfB sign l (kindsP l) = bsP sign l := by
  refine by_drop (P := fun l => rfB sign l (kindsP l) = bsP sign l) ?_ ?_ l
  · rw [kindsP_nil, bsP_nil]; rfl
  · intro l h ih
    have hle := sz_le l h
    have hlen : (l.take (sz l)).length = sz l := by rw [List.length_take]; omega
    rw [bsP_step sign h, ← ih, ← rfB_chunk sign hs (chr_first l h), hlen]
    rw [← rfB_app sign _ _ _ _ (by rw [hlen, List.length_replicate]), List.take_append_drop, ← kindsP_step h]

abbrev Tag := UInt8 × Nat
def isH (x : Tag) : Bool := x.2 == 2
def gB (x : Tag) : Bytes := if x.2 = 2 then esc x.1 else [x.1]
def wrapS (h : Bool) (p : Bytes) : Bytes := if h then 36 :: 39 :: (p ++ [39]) else bt p
/-- Does a stretch end ahead of these? -/
def brk (h : Bool) : List Tag → Bool
  | [] => true
  | y :: _ => isH y != h
/-- The stretches, byte by byte. -/
def rf3 : Bytes → List Tag → Bytes
  | _, [] => []
  | part, x :: ts => if brk (isH x) ts then wrapS (isH x) (part ++ gB x) ++ rf3 [] ts else rf3 (part ++ gB x) ts
theorem rf3_run (h : Bool) (ts2 : List Tag) (hb : brk h ts2 = true) : ∀ (ts1 : List Tag) (part : Bytes), ts1 ≠ [] → (∀ x ∈ ts1, isH x = h) → rf3 part (ts1 ++ ts2) = wrapS h (part ++ ts1.flatMap gB) ++ rf3 [] ts2
  | [], _, hn, _ => absurd rfl hn
  | [x], part, _, hx => by
    have e := hx x (by simp)
    simp only [List.cons_append, List.nil_append, rf3]
    rw [e, if_pos hb]
    simp
  | x :: y :: r, part, _, hx => by
    have e := hx x (by simp)
    have e2 := hx y (by simp)
    have hbr : brk (isH x) (y :: r ++ ts2) = false := by
      show (isH y != isH x) = false
      rw [e, e2]
      cases h <;> rfl
    rw [List.cons_append, rf3, hbr, if_neg (by decide), rf3_run h ts2 hb (y :: r) (part ++ gB x) (by simp) (fun z hz => hx z (by simp [hz]))]
    simp [List.append_assoc]
def tagsOf (cs : List Bytes) : List Tag := cs.flatMap (fun c => c.map (fun b => (b, rk c)))
theorem tags_app (a b : List Bytes) : tagsOf (a ++ b) = tagsOf a ++ tagsOf b := by unfold tagsOf; rw [List.flatMap_append]
theorem zip_rep (r : Nat) : ∀ c : Bytes, c.zip (List.replicate c.length r) = c.map (fun b => (b, r))
  | [] => rfl
  | b :: c => by rw [List.length_cons, List.replicate_succ, List.zip_cons_cons, zip_rep r c]; rfl
theorem zip_tags (l : Bytes) : l.zip (kindsP l) = tagsOf (chunks l) := by
  refine by_drop (P := fun l => l.zip (kindsP l) = tagsOf (chunks l)) ?_ ?_ l
  · rw [chunks_nil]; rfl
  · intro l h ih
    have hle := sz_le l h
    have hlen : (l.take (sz l)).length = sz l := by rw [List.length_take]; omega
    rw [chunks_step l h]
    show _ = (l.take (sz l)).map (fun b => (b, rk (l.take (sz l)))) ++ tagsOf (chunks (l.drop (sz l)))
    rw [← ih, kindsP_step h]
    conv => lhs; arg 1; rw [← List.take_append_drop (sz l) l]
    rw [List.zip_append (by rw [hlen, List.length_replicate])]
    congr 1
    rw [← zip_rep, hlen]
theorem tag_hard {c : Bytes} {x : Tag} (h : x ∈ c.map (fun b => (b, rk c))) : isH x = hardC c := by
  obtain ⟨b, _, rfl⟩ := List.mem_map.1 h
  have := rk_two c
  unfold isH
  cases hc : hardC c with
  | true => rw [hc] at this; exact beq_iff_eq.2 (this.mpr rfl)
  | false =>
    rw [hc] at this
    exact beq_eq_false_iff_ne.2 (fun e => by have := this.mp e; cases this)
theorem tags_all {cs : List Bytes} {h : Bool} (hc : ∀ c ∈ cs, hardC c = h) : ∀ x ∈ tagsOf cs, isH x = h := by
  intro x hx
  obtain ⟨c, hm, hx⟩ := List.mem_flatMap.1 hx
  rw [tag_hard hx, hc c hm]
theorem tags_soft {cs : List Bytes} (hc : ∀ c ∈ cs, hardC c = false) : (tagsOf cs).flatMap gB = cs.flatten := by
  induction cs with
  | nil => rfl
  | cons c cs ih =>
    show (c.map (fun b => (b, rk c)) ++ tagsOf cs).flatMap gB = _
    rw [List.flatMap_append, ih (fun x hx => hc x (by simp [hx])), List.flatten_cons]
    congr 1
    have hr : rk c ≠ 2 := by rw [Ne, rk_two, hc c (by simp)]; decide
    rw [List.flatMap_map]
    have : (fun b => gB (b, rk c)) = fun b => [b] := by
      funext b
      unfold gB
      rw [if_neg hr]
    rw [this]
    simp
theorem tags_hard {cs : List Bytes} (hc : ∀ c ∈ cs, hardC c = true) : (tagsOf cs).flatMap gB = cs.flatten.flatMap esc := by
  induction cs with
  | nil => rfl
  | cons c cs ih =>
    show (c.map (fun b => (b, rk c)) ++ tagsOf cs).flatMap gB = _
    rw [List.flatMap_append, ih (fun x hx => hc x (by simp [hx])), List.flatten_cons, List.flatMap_append]
    congr 1
    have hr : rk c = 2 := by rw [rk_two]; exact hc c (by simp)
    rw [List.flatMap_map]
    have : (fun b => gB (b, rk c)) = esc := by
      funext b
      unfold gB
      rw [if_pos hr]
    rw [this]
theorem tags_ne {cs : List Bytes} (hn : ∀ c ∈ cs, c ≠ []) (h : cs ≠ []) : tagsOf cs ≠ [] := by
  cases cs with
  | nil => exact absurd rfl h
  | cons c r =>
    have := hn c (by simp)
    cases c with
    | nil => exact absurd rfl this
    | cons b q => simp [tagsOf]
theorem drop_head {p : Bytes → Bool} : ∀ {l : List Bytes} {x : Bytes} {r : List Bytes}, l.dropWhile p = x :: r → p x = false
  | [], _, _, h => by cases h
  | a :: l, x, r, h => by
    rw [List.dropWhile_cons] at h
    split at h
    · exact drop_head h
    · rename_i hp
      injection h with h1 h2
      rw [← h1]
      simpa using hp
theorem brk_tags {h : Bool} {cs : List Bytes} (hn : ∀ c ∈ cs, c ≠ []) (hh : ∀ x r, cs = x :: r → hardC x = !h) : brk h (tagsOf cs) = true := by
  cases cs with
  | nil => rfl
  | cons c r =>
    have h1 := hn c (by simp)
    have h2 := hh c r rfl
    cases c with
    | nil => exact absurd rfl h1
    | cons b q =>
      show (isH (b, rk (b :: q)) != h) = true
      rw [tag_hard (c := b :: q) (x := (b, rk (b :: q))) (by simp), h2]
      cases h <;> rfl
theorem rf3_str (cs : List Bytes) : (∀ c ∈ cs, c ≠ []) → rf3 [] (tagsOf cs) = strP cs := by
  obtain ⟨n, hn⟩ : ∃ n, cs.length = n := ⟨_, rfl⟩
  induction n using Nat.strongRecOn generalizing cs with
  | _ n ih =>
    intro hne
    by_cases h0 : cs = []
    · subst h0; rw [strP_nil]; rfl
    · rw [strP, dif_neg h0]
      obtain ⟨p, hp⟩ : ∃ p, cs.takeWhile (fun c => !hardC c) = p := ⟨_, rfl⟩
      obtain ⟨q, hq⟩ : ∃ q, cs.dropWhile (fun c => !hardC c) = q := ⟨_, rfl⟩
      have hpq : cs = p ++ q := by rw [← hp, ← hq]; exact (List.takeWhile_append_dropWhile).symm
      rw [hp, hq]
      obtain ⟨h, hh⟩ : ∃ h, q.takeWhile hardC = h := ⟨_, rfl⟩
      obtain ⟨r, hr⟩ : ∃ r, q.dropWhile hardC = r := ⟨_, rfl⟩
      have hhr : q = h ++ r := by rw [← hh, ← hr]; exact (List.takeWhile_append_dropWhile).symm
      rw [hh, hr]
      have pn : ∀ c ∈ p, c ≠ [] := fun c hc => hne c (by rw [hpq]; simp [hc])
      have qn : ∀ c ∈ q, c ≠ [] := fun c hc => hne c (by rw [hpq]; simp [hc])
      have hnn : ∀ c ∈ h, c ≠ [] := fun c hc => qn c (by rw [hhr]; simp [hc])
      have rn : ∀ c ∈ r, c ≠ [] := fun c hc => qn c (by rw [hhr]; simp [hc])
      have psoft : ∀ c ∈ p, hardC c = false := fun c hc => by
        rw [← hp] at hc
        have := mem_takeWhile hc
        simpa using this
      have hhard : ∀ c ∈ h, hardC c = true := fun c hc => by
        rw [← hh] at hc
        exact mem_takeWhile hc
      have qhead : ∀ x y, q = x :: y → hardC x = true := fun x y e => by
        rw [← hq] at e
        have := drop_head e
        simpa using this
      have rhead : ∀ x y, r = x :: y → hardC x = false := fun x y e => by
        rw [← hr] at e
        exact drop_head e
      have hsmall : h ≠ [] → r.length < cs.length := fun hne0 => by
        rw [hpq, hhr, List.length_append, List.length_append]
        have := List.length_pos_iff.2 hne0
        omega
      have e2 : rf3 [] (tagsOf q) = (if h = [] then [] else hardS h.flatten) ++ strP r := by
        by_cases hz : h = []
        · rw [if_pos hz, List.nil_append]
          have hq0 : q = [] := by
            cases q with
            | nil => rfl
            | cons x y =>
              have := qhead x y rfl
              rw [List.takeWhile_cons, if_pos this] at hh
              rw [hz] at hh
              cases hh
          rw [hq0] at hr ⊢
          rw [← hr]
          rw [show ([] : List Bytes).dropWhile hardC = [] from rfl, strP_nil]
          rfl
        · rw [if_neg hz, hhr, tags_app, rf3_run true (tagsOf r) (brk_tags rn (fun x y e => by rw [rhead x y e]; rfl)) (tagsOf h) [] (tags_ne hnn hz) (tags_all hhard), tags_hard hhard,
            ih _ (by rw [← hn]; exact hsmall hz) r rfl rn]
          rfl
      rw [← e2]
      by_cases hz : p = []
      · rw [if_pos hz, hpq, hz]
        rfl
      · rw [if_neg hz, hpq, tags_app, rf3_run false (tagsOf q) (brk_tags qn (fun x y e => by rw [qhead x y e]; rfl)) (tagsOf p) [] (tags_ne pn hz) (tags_all psoft), tags_soft psoft]
        rfl
theorem rf3_all (l : Bytes) : rf3 [] (l.zip (kindsP l)) = strP (chunks l) := by
  rw [zip_tags]
  exact rf3_str _ (fun c hc => (chunks_chr l c hc).ne)
theorem kinds_hard (l : Bytes) : (kindsP l).any (· == 2) = hasHard l := by
  unfold kindsP hasHard
  have : ∀ cs : List Bytes, (∀ c ∈ cs, c ≠ []) → (cs.flatMap (fun c => List.replicate c.length (rk c))).any (· == 2) = cs.any hardC := by
    intro cs
    induction cs with
    | nil => intro _; rfl
    | cons c cs ih =>
      intro hn
      rw [List.flatMap_cons, List.any_append, ih (fun x hx => hn x (by simp [hx])), List.any_cons]
      congr 1
      have hc := hn c (by simp)
      have h2 := rk_two c
      have hl : c.length ≠ 0 := by simpa using hc
      cases hh : hardC c with
      | true =>
        rw [hh] at h2
        rw [List.any_replicate, if_neg hl, h2.mpr rfl]
        rfl
      | false =>
        rw [hh] at h2
        rw [List.any_replicate, if_neg hl]
        exact beq_eq_false_iff_ne.2 (fun e => by have := h2.mp e; cases this)
  exact this _ (fun c hc => (chunks_chr l c hc).ne)
theorem kinds_plain (l : Bytes) : (kindsP l).all (· == 1) = allPlain l := by
  unfold kindsP allPlain
  have : ∀ cs : List Bytes, (∀ c ∈ cs, c ≠ []) → (cs.flatMap (fun c => List.replicate c.length (rk c))).all (· == 1) = cs.all (fun c => kc c == 0) := by
    intro cs
    induction cs with
    | nil => intro _; rfl
    | cons c cs ih =>
      intro hn
      rw [List.flatMap_cons, List.all_append, ih (fun x hx => hn x (by simp [hx])), List.all_cons]
      congr 1
      have hc := hn c (by simp)
      have hl : c.length ≠ 0 := by simpa using hc
      rw [List.all_replicate, if_neg hl]
      by_cases h0 : kc c = 0
      · rw [rk_plain.2 h0, h0]; rfl
      · rw [beq_eq_false_iff_ne.2 h0]
        exact beq_eq_false_iff_ne.2 (fun e => h0 (rk_plain.1 e))
  exact this _ (fun c hc => (chunks_chr l c hc).ne)
end Go.Proofs.YtigkdehaepenhaaGreatDoor.Q

namespace Go.Proofs.YtigkdehaepenhaaGreatDoor.Q
open Go.RowKit

theorem add_str (a b : ByteArray) (h : a.size + b.size ≤ 100000000) (w : World) : (Op.stringOp .add a b).run Tryz.prog w = .ok (.string (a ++ b)) w := run_string_add_sum w _ _ (by omega)
theorem three_text (w : World) (d1 d2 d3 : UInt8) (x y z : Int) (hx : x = (d1.toNat : Int)) (hy : y = (d2.toNat : Int)) (hz : z = (d3.toNat : Int)) :
    (convert 104 9 (.slice (some ⟨w.heap.size, 0, Option.none⟩) 3 3)).run Tryz.prog (w.alloc (.cells #[.int .u8 x, .int .u8 y, .int .u8 z] 5)) = .ok (.string (T [d1, d2, d3])) (w.alloc (.cells #[.int .u8 x, .int .u8 y, .int .u8 z] 5)) := by
  subst hx hy hz
  refine run_convert_bytes_back _ 104 9 5 ⟨w.heap.size, 0, Option.none⟩ 3 [d1, d2, d3] Tryz.underlying104 Tryz.underlying5 Tryz.underlying9 ?_
  intro j hj
  have : j < 3 := hj
  match j, this with
  | 0, _ => simp [Addr.add]
  | 1, _ => simp [Addr.add]
  | 2, _ => simp [Addr.add]

set_option maxHeartbeats 1000000 in
set_option maxRecDepth 100000 in
theorem escape_any (c : UInt8) (n : Nat) (hn : c.toNat = n) (w : World) :
    Calls Tryz.prog 90 #[.int .u8 (n : Int)] w fun e w' => e = .returned (.string (T (esc c))) ∧ Below w.heap.size w w' := by
  have hc := c.toNat_lt
  rw [hn] at hc
  by_cases h10 : n = 10
  · have he : T (esc c) = ⟨#[92, 110]⟩ := by
      have : c = 10 := UInt8.toNat_inj.1 (by rw [hn, h10]; rfl)
      subst this; rfl
    rw [h10, he]
    go_enter Tryz.func90, Tryz.ntmps90
    go_wp2_with fail
    go_ret
    exact ⟨rfl, Below.refl _ _⟩
  · by_cases h9 : n = 9
    · have he : T (esc c) = ⟨#[92, 116]⟩ := by
        have : c = 9 := UInt8.toNat_inj.1 (by rw [hn, h9]; rfl)
        subst this; rfl
      rw [h9, he]
      go_enter Tryz.func90, Tryz.ntmps90
      go_wp2_with fail
      go_ret
      exact ⟨rfl, Below.refl _ _⟩
    · have he : Hid (T (esc c) = ⟨#[92]⟩ ++ T [48 + c / 64, 48 + c / 8 % 8, 48 + c % 8]) := Lib.hid (by
        unfold esc
        rw [if_neg (fun e => h10 (by rw [← hn, e]; rfl)), if_neg (fun e => h9 (by rw [← hn, e]; rfl))]
        exact L_ext (by rw [L_add]; rfl))
      have d1 : (48 + (n : Int) / 64) = ((48 + c / 64 : UInt8).toNat : Int) := by
        rw [UInt8.toNat_add, UInt8.toNat_div, hn]; show _ = (((48 + n / 64) % 256 : Nat) : Int); omega
      have d2 : (48 + (n : Int) / 8 % 8) = ((48 + c / 8 % 8 : UInt8).toNat : Int) := by
        rw [UInt8.toNat_add, UInt8.toNat_mod, UInt8.toNat_div, hn]; show _ = (((48 + n / 8 % 8) % 256 : Nat) : Int); omega
      have d3 : (48 + (n : Int) % 8) = ((48 + c % 8 : UInt8).toNat : Int) := by
        rw [UInt8.toNat_add, UInt8.toNat_mod, hn]; show _ = (((48 + n % 8) % 256 : Nat) : Int); omega
      have hcv := three_text w _ _ _ _ _ _ d1 d2 d3
      have ha := add_str ⟨#[92]⟩ (T [48 + c / 64, 48 + c / 8 % 8, 48 + c % 8]) (by rw [T_size]; show 1 + 3 ≤ _; omega)
      have q1 : ((n : Int) == 10) = false := beq_eq_false_iff_ne.2 (by omega)
      have q2 : ((n : Int) == 9) = false := beq_eq_false_iff_ne.2 (by omega)
      have b1 : (48 + (n : Int) / 64) < 256 := by omega
      generalize T [48 + c / 64, 48 + c / 8 % 8, 48 + c % 8] = q at *
      clear d1 d2 d3 h10 h9
      go_enter Tryz.func90, Tryz.ntmps90
      go_wp2_with fail
      go_ret
      rw [he.out]
      exact ⟨rfl, (Below.refl _ _).alloc (Nat.le_refl _) _⟩

def AlwRel (s : ByteArray) (v3 v4 : Value) : Prop :=
  ∃ (i : Nat) (t : ByteArray), i ≤ s.size ∧ v4 = .int .i64 (i : Int) ∧ v3 = .string t ∧ t.size ≤ 1 + 4 * i ∧ L t ++ ((L s).drop i).flatMap qb = 39 :: (L s).flatMap qb
theorem one_byte (s : ByteArray) (i : Nat) (h : i < s.size) : L (s.extract i (i + 1)) = [(L s)[i]'(by rw [L_len]; exact h)] := by
  have hl : i < (L s).length := by rw [L_len]; exact h
  rw [L_extract, List.take_succ_eq_append_getElem hl, List.drop_left' (by rw [List.length_take]; omega)]

set_option maxHeartbeats 1000000 in
set_option maxRecDepth 100000 in
theorem always_any (s : ByteArray) (w : World) (hs : s.size ≤ 1000000) :
    Calls Tryz.prog 89 #[.string s] w fun e w' => e = .returned (.string (T (bt (L s)))) ∧ w' = w := by
  go_enter Tryz.func89, Tryz.ntmps89
  go_wp2
  go_loop [3, 4] (AlwRel s) (fun _ i => s.size - (intOf i).toNat)
  case atStart => exact ⟨0, ⟨#[39]⟩, Nat.zero_le _, rfl, rfl, by decide, by rw [List.drop_zero]; rfl⟩
  case round =>
    obtain ⟨i, t, hi, rfl, rfl, hz, hr⟩ := hrel
    have HR := Lib.hid hr
    clear hr
    by_cases hlt : i < s.size
    · have hll : i < (L s).length := by rw [L_len]; exact hlt
      have ei := get_nth' s i hlt
      obtain ⟨b, hb⟩ : ∃ b, nth (L s) i = b := ⟨_, rfl⟩
      rw [hb] at ei
      obtain ⟨c, hc⟩ : ∃ c, s[i]'hlt = c := ⟨_, rfl⟩
      rw [hc] at ei
      have HD : Hid ((L s).drop i = c :: (L s).drop (i + 1)) := Lib.hid (by rw [drop_cons hll, ← hc]; rfl)
      have HX : Hid (L (s.extract i (i + 1)) = [c]) := Lib.hid (by rw [one_byte s i hlt, ← hc]; rfl)
      have hxz : (s.extract i (i + 1)).size = 1 := by rw [← L_len, HX.out]; rfl
      have h4 : (ByteArray.mk #[39, 92, 39, 39]).size = 4 := rfl
      by_cases h39 : b = 39
      · have hq : Hid (qb c = [39, 92, 39, 39]) := Lib.hid (by
          have : c = 39 := (toNat_eq (by decide)).1 (by rw [ei, h39])
          rw [this]; rfl)
        have hx : ((b : Int) == 39) = true := by rw [h39]; rfl
        have ha := add_str t ⟨#[39, 92, 39, 39]⟩ (by omega)
        clear h39 hb
        go_wp2_with fail
        refine ⟨⟨i + 1, t ++ ⟨#[39, 92, 39, 39]⟩, by omega, by go_num, rfl, by rw [ByteArray.size_append, h4]; omega, ?_⟩, ?_⟩
        · rw [← HR.out, HD.out, List.flatMap_cons, hq.out, L_add, List.append_assoc]
        · simp [intOf]; omega
      · have hq : Hid (qb c = [c]) := Lib.hid (by
          unfold qb
          rw [if_neg]
          intro e
          rw [e] at ei
          exact h39 ei.symm)
        have hx : ((b : Int) == 39) = false := beq_eq_false_iff_ne.2 (by omega)
        have ha := add_str t (s.extract i (i + 1)) (by omega)
        clear h39 hb
        go_wp2_with fail
        refine ⟨⟨i + 1, t ++ s.extract i (i + 1), by omega, by go_num, rfl, by rw [ByteArray.size_append, hxz]; omega, ?_⟩, ?_⟩
        · rw [← HR.out, HD.out, List.flatMap_cons, hq.out, L_add, HX.out, List.append_assoc]
        · simp [intOf]; omega
    · have h0 : (L s).drop i = [] := List.drop_eq_nil_of_le (by rw [L_len]; omega)
      have h1 : (ByteArray.mk #[39]).size = 1 := rfl
      have ha := add_str t ⟨#[39]⟩ (by omega)
      have HF : Hid (t ++ ⟨#[39]⟩ = T (bt (L s))) := Lib.hid (L_ext (by
        have := HR.out
        rw [h0, List.flatMap_nil, List.append_nil] at this
        rw [L_add, this]
        rfl))
      go_wp2_with fail
      go_ret
      exact ⟨ret_str HF.out, rfl⟩
end Go.Proofs.YtigkdehaepenhaaGreatDoor.Q

namespace Go.Proofs.YtigkdehaepenhaaGreatDoor.Q
open Go.RowKit

/-- How the numbers lie. -/
theorem OwnI.form {W0 : World} {v : Value} {ks : List Nat} {w : World} (h : OwnI W0 v ks w) :
    ∃ (a : Option Addr) (cap : Nat), v = .slice a ks.length cap ∧ ∀ i (hi : i < ks.length), ∃ g, a = some ⟨g, 0, Option.none⟩ ∧ w.cell? ⟨g, i, Option.none⟩ = some (.int .i64 ((ks[i]'hi : Nat) : Int)) := by
  obtain ⟨h1, _, _⟩ := h
  rcases h1.2 with ⟨rfl, hz⟩ | ⟨g, cap, cur, rfl, _⟩
  · exact ⟨Option.none, 0, by rw [hz], fun i hi => by omega⟩
  · refine ⟨some ⟨g, 0, Option.none⟩, cap, rfl, fun i hi => ⟨g, rfl, ?_⟩⟩
    have := h1.cells (g := g) rfl i (.int .i64 ((ks[i]'hi : Nat) : Int)) (by simp [hi])
    have e : (⟨g, 0, Option.none⟩ : Addr).add i = ⟨g, i, Option.none⟩ := by by_cases h : i = 0 <;> simp [Addr.add, h]
    rw [e] at this
    exact this
theorem OwnI.below {W0 : World} {v : Value} {ks : List Nat} {w : World} (h : OwnI W0 v ks w) : Below W0.heap.size W0 w := h.2.1
def StyleRelC (lo hi : Int) (w : World) (v : Value) (w' : World) : Prop := ∃ i : Int, lo ≤ i ∧ i ≤ hi ∧ v = .int .i64 i ∧ Below w.heap.size w w'
def IdxRel (n : Nat) (v : Value) : Prop := ∃ i : Nat, i ≤ n ∧ v = .int .i64 (i : Int)

end Go.Proofs.YtigkdehaepenhaaGreatDoor.Q
