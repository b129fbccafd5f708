/-
  Plain facts: what is quoted with escapes, or as C, has no hard byte. Conditions: none.
-/
import Derived.Test.YtlilnljneakngaaDoorQKindsW
import Derived.Test.YtlilnljneakngaaDoorQReadM
set_option linter.unusedVariables false
namespace Go.Proofs.YtlilnljneakngaaDoor

def Clean (l : Bytes) : Prop := ∀ c ∈ chunks l, kc c ≠ 1
theorem clean_nil : Clean [] := by unfold Clean; rw [chunks_nil]; simp
theorem kb_ne {n : Nat} (h : kb n ≠ 1) : 32 ≤ n ∧ n < 127 := by
  apply Classical.byContradiction
  intro hn
  apply h
  unfold kb
  rw [if_pos (by omega)]
theorem kb_ok {n : Nat} (h1 : 32 ≤ n) (h2 : n < 127) : kb n ≠ 1 := by
  unfold kb
  rw [if_neg (by omega)]
  split <;> decide
theorem clean_cons {b : UInt8} {r : Bytes} (h1 : 32 ≤ b.toNat) (h2 : b.toNat < 127) (hr : Clean r) : Clean (b :: r) := by
  unfold Clean
  rw [chunks_ascii b r (by omega)]
  intro c hc
  rcases List.mem_cons.1 hc with rfl | hc
  · exact kb_ok h1 h2
  · exact hr c hc
theorem clean_list {p r : Bytes} (hp : ∀ b ∈ p, 32 ≤ b.toNat ∧ b.toNat < 127) (hr : Clean r) : Clean (p ++ r) := by
  induction p with
  | nil => exact hr
  | cons b p ih =>
    have hb := hp b (by simp)
    exact clean_cons hb.1 hb.2 (ih (fun x hx => hp x (by simp [hx])))
theorem clean_chr {c r : Bytes} (hc : Chr c) (hh : hardC c = false) (hr : Clean r) : Clean (c ++ r) := by
  rcases hc with ⟨b, rfl⟩ | ⟨h2, hs, _⟩
  · have hb : kb b.toNat ≠ 1 := by
      intro e
      have : hardC [b] = (kb b.toNat == 1) := rfl
      rw [this, e] at hh
      cases hh
    have := kb_ne hb
    exact clean_cons this.1 this.2 hr
  · unfold Clean
    rw [chunks_multi h2 hs r]
    intro c' hc'
    rcases List.mem_cons.1 hc' with rfl | hc'
    · rw [kc_multi h2]; decide
    · exact hr c' hc'
theorem esc_ascii (b : UInt8) : ∀ x ∈ esc b, 32 ≤ x.toNat ∧ x.toNat < 127 := by
  intro x hx
  have hb := b.toNat_lt
  have d1 : (48 + b / 64 : UInt8).toNat = 48 + b.toNat / 64 := by
    rw [UInt8.toNat_add, UInt8.toNat_div]; show (48 + b.toNat / 64) % 256 = _; omega
  have d2 : (48 + b / 8 % 8 : UInt8).toNat = 48 + b.toNat / 8 % 8 := by
    rw [UInt8.toNat_add, UInt8.toNat_mod, UInt8.toNat_div]; show (48 + b.toNat / 8 % 8) % 256 = _; omega
  have d3 : (48 + b % 8 : UInt8).toNat = 48 + b.toNat % 8 := by
    rw [UInt8.toNat_add, UInt8.toNat_mod]; show (48 + b.toNat % 8) % 256 = _; omega
  unfold esc at hx
  split at hx
  · simp only [List.mem_cons, List.not_mem_nil, or_false] at hx
    rcases hx with rfl | rfl <;> decide
  · split at hx
    · simp only [List.mem_cons, List.not_mem_nil, or_false] at hx
      rcases hx with rfl | rfl <;> decide
    · simp only [List.mem_cons, List.not_mem_nil, or_false] at hx
      rcases hx with rfl | rfl | rfl | rfl
      · decide
      · rw [d1]; omega
      · rw [d2]; omega
      · rw [d3]; omega
theorem clean_escs {l r : Bytes} (hr : Clean r) : Clean (l.flatMap esc ++ r) := by
  refine clean_list ?_ hr
  intro x hx
  obtain ⟨b, _, hb⟩ := List.mem_flatMap.1 hx
  exact esc_ascii b x hb
theorem clean_hardS {l r : Bytes} (hr : Clean r) : Clean (hardS l ++ r) := by
  unfold hardS
  refine clean_cons (by decide) (by decide) (clean_cons (by decide) (by decide) ?_)
  show Clean (l.flatMap esc ++ [39] ++ r)
  rw [List.append_assoc]
  exact clean_escs (clean_cons (by decide) (by decide) hr)
theorem qb_high : ∀ {c : Bytes}, (∀ b ∈ c, 128 ≤ b.toNat) → c.flatMap qb = c := fun {c} h => qb_none (fun hm => absurd (h 39 hm) (by decide))
theorem clean_qb {cs : List Bytes} (hc : ∀ c ∈ cs, Chr c ∧ hardC c = false) {r : Bytes} (hr : Clean r) : Clean (cs.flatten.flatMap qb ++ r) := by
  induction cs with
  | nil => exact hr
  | cons c cs ih =>
    obtain ⟨h1, h2⟩ := hc c (by simp)
    have ih' := ih (fun x hx => hc x (by simp [hx]))
    rw [List.flatten_cons, List.flatMap_append, List.append_assoc]
    rcases h1 with ⟨b, rfl⟩ | ⟨hl, hs, hi⟩
    · by_cases hb : b = 39
      · subst hb
        exact clean_cons (by decide) (by decide) (clean_cons (by decide) (by decide) (clean_cons (by decide) (by decide) (clean_cons (by decide) (by decide) ih')))
      · have e : [b].flatMap qb = [b] := by simp [qb, hb]
        rw [e]
        exact clean_chr (.inl ⟨b, rfl⟩) h2 ih'
    · rw [qb_high hi]
      exact clean_chr (.inr ⟨hl, hs, hi⟩) h2 ih'
theorem clean_bt {cs : List Bytes} (hc : ∀ c ∈ cs, Chr c ∧ hardC c = false) {r : Bytes} (hr : Clean r) : Clean (bt cs.flatten ++ r) := by
  unfold bt
  refine clean_cons (by decide) (by decide) ?_
  show Clean (cs.flatten.flatMap qb ++ [39] ++ r)
  rw [List.append_assoc]
  exact clean_qb hc (clean_cons (by decide) (by decide) hr)
theorem mem_takeWhile {α : Type} {p : α → Bool} : ∀ {l : List α} {x : α}, x ∈ l.takeWhile p → p x = true
  | [], _, h => by cases h
  | a :: l, x, h => by
    rw [List.takeWhile_cons] at h
    split at h
    · rcases List.mem_cons.1 h with rfl | h
      · assumption
      · exact mem_takeWhile h
    · cases h
theorem clean_str (l : Bytes) : Clean (strP (chunks l)) := by
  obtain ⟨n, hn⟩ : ∃ n, l.length = n := ⟨_, rfl⟩
  induction n using Nat.strongRecOn generalizing l with
  | _ n ih =>
    by_cases hl : l = []
    · subst hl; rw [chunks_nil, strP_nil]; exact clean_nil
    · obtain ⟨n1, h1⟩ : ∃ n1, runP false l = n1 := ⟨_, rfl⟩
      obtain ⟨n2, h2⟩ : ∃ n2, runP true (l.drop n1) = n2 := ⟨_, rfl⟩
      have a3 : n1 = 0 → 0 < n2 := fun h0 => by rw [← h2, h0, List.drop_zero]; exact run_some hl (by rw [h1, h0])
      have h0 : 0 < l.length := List.length_pos_iff.2 hl
      rw [strP_at hl h1 h2]
      have i1 := ih _ (by rw [← hn, List.length_drop, List.length_drop]; omega) ((l.drop n1).drop n2) rfl
      have e2 : Clean ((if n2 = 0 then [] else hardS ((l.drop n1).take n2)) ++ strP (chunks ((l.drop n1).drop n2))) := by
        split
        · exact i1
        · exact clean_hardS i1
      split
      · exact e2
      · rw [← h1, run_take]
        rw [← h1] at e2
        refine clean_bt ?_ e2
        intro c hc
        have h3 := mem_takeWhile hc
        exact ⟨chunks_chr l c ((List.takeWhile_sublist _).subset hc), by simpa using h3⟩
theorem soft_all {l : Bytes} (h : hasHard l = false) : ∀ c ∈ chunks l, hardC c = false := by
  unfold hasHard at h
  rw [List.any_eq_false] at h
  intro c hc
  simpa using h c hc
theorem clean_bare {l : Bytes} (h : hasHard l = false) : Clean (bareP l) := by
  have hs := soft_all h
  unfold bareP
  split
  · intro c hc e
    have := hs c hc
    unfold hardC at this
    rw [e] at this
    cases this
  · have := clean_bt (cs := chunks l) (fun c hc => ⟨chunks_chr l c hc, hs c hc⟩) clean_nil
    rw [chunks_flat, List.append_nil] at this
    exact this
theorem clean3 (l : Bytes) : Clean (quoteP 3 l) := by
  show Clean (if hasHard l then strP (chunks l) else bareP l)
  split
  · exact clean_str l
  · rename_i h
    exact clean_bare (by simpa using h)
theorem clean_bsC {sign : UInt8} (h1 : 32 ≤ sign.toNat) (h2 : sign.toNat < 127) {c r : Bytes} (hc : Chr c) (hr : Clean r) : Clean (bsC sign c ++ r) := by
  cases hh : hardC c with
  | true =>
    obtain ⟨b, rfl⟩ := hardC_one hc hh
    have e : bsC sign [b] = esc b := by simp only [bsC, hh, if_true]
    rw [e]
    exact clean_list (esc_ascii b) hr
  | false =>
    match c, hc.ne with
    | b :: q, _ =>
      by_cases hs : b = 92 ∨ b = sign
      · have e : bsC sign (b :: q) = [92, b] := by simp only [bsC]; rw [hh, if_neg (by decide), if_pos hs]
        rw [e]
        have hb : 32 ≤ b.toNat ∧ b.toNat < 127 := by
          rcases hs with rfl | rfl
          · decide
          · exact ⟨h1, h2⟩
        exact clean_cons (by decide) (by decide) (clean_cons hb.1 hb.2 hr)
      · have e : bsC sign (b :: q) = b :: q := by simp only [bsC]; rw [hh, if_neg (by decide), if_neg hs]
        rw [e]
        exact clean_chr hc hh hr
theorem clean_bs {sign : UInt8} (h1 : 32 ≤ sign.toNat) (h2 : sign.toNat < 127) {r : Bytes} (hr : Clean r) : ∀ (cs : List Bytes), (∀ c ∈ cs, Chr c) → Clean (cs.flatMap (bsC sign) ++ r)
  | [], _ => hr
  | c :: cs, hc => by
    rw [List.flatMap_cons, List.append_assoc]
    exact clean_bsC h1 h2 (hc c (by simp)) (clean_bs h1 h2 hr cs (fun x hx => hc x (by simp [hx])))
theorem clean4 (l : Bytes) : Clean (quoteP 4 l) := by
  show Clean (34 :: (bsP 34 l ++ [34]))
  exact clean_cons (by decide) (by decide) (clean_bs (by decide) (by decide) (clean_cons (by decide) (by decide) clean_nil) _ (chunks_chr l))
theorem clean5 (l : Bytes) : Clean (quoteP 5 l) := by
  show Clean (bsP 32 l)
  have := clean_bs (sign := 32) (by decide) (by decide) clean_nil _ (chunks_chr l)
  rw [List.append_nil] at this
  exact this
theorem clean_kinds {l : Bytes} (h : Clean l) : ∀ k ∈ kindsP l, k ≠ 2 := by
  intro k hk
  unfold kindsP at hk
  obtain ⟨c, hc, hm⟩ := List.mem_flatMap.1 hk
  have := List.eq_of_mem_replicate hm
  rw [this]
  unfold rk
  rw [if_neg (h c hc)]
  split <;> decide
theorem clean_styles (i : Int) (h3 : 3 ≤ i) (h5 : i ≤ 5) (l : Bytes) : ∀ k ∈ kindsP (quoteP i l), k ≠ 2 := by
  have : i = 3 ∨ i = 4 ∨ i = 5 := by omega
  rcases this with rfl | rfl | rfl
  · exact clean_kinds (clean3 l)
  · exact clean_kinds (clean4 l)
  · exact clean_kinds (clean5 l)
end Go.Proofs.YtlilnljneakngaaDoor
