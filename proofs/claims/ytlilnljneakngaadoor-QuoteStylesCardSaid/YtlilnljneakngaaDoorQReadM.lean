/-
  Plain facts on what a shell, and C, read: what is quoted is read as it was. Conditions: none.
-/
import Derived.Test.YtlilnljneakngaaDoorQStrM
set_option linter.unusedVariables false
namespace Go.Proofs.YtlilnljneakngaaDoor

/-- The byte of the escape with which a text begins, and how long it is. -/
def rdE (l : Bytes) : UInt8 × Nat :=
  if nth l 0 = 92 ∧ nth l 1 = 110 then (10, 2)
  else if nth l 0 = 92 ∧ nth l 1 = 116 then (9, 2)
  else if nth l 0 = 92 ∧ 48 ≤ nth l 1 ∧ nth l 1 ≤ 51 ∧ 48 ≤ nth l 2 ∧ nth l 2 ≤ 55 ∧ 48 ≤ nth l 3 ∧ nth l 3 ≤ 55 then (((nth l 1 - 48) * 64 + (nth l 2 - 48) * 8 + (nth l 3 - 48)).toUInt8, 4)
  else (0, 0)
theorem nth_beyond {l : Bytes} {i : Nat} (h : l.length ≤ i) : nth l i = 0 := by
  unfold nth
  rw [List.getD_eq_getElem?_getD, List.getElem?_eq_none h]
  rfl
theorem nth_in {l : Bytes} {i : Nat} (h : nth l i ≠ 0) : i < l.length := by
  apply Classical.byContradiction
  intro hn
  exact h (nth_beyond (by omega))
theorem rdE_le (l : Bytes) : (rdE l).2 ≤ l.length := by
  unfold rdE
  repeat' split
  · rename_i h; have := nth_in (l := l) (i := 1) (by omega); dsimp only; omega
  · rename_i h; have := nth_in (l := l) (i := 1) (by omega); dsimp only; omega
  · rename_i h; have := nth_in (l := l) (i := 3) (by omega); dsimp only; omega
  · simp

/-- What a shell reads: state 0 outside, 1 between quotes, 2 among escapes. -/
def sh (st : Nat) (l : Bytes) : Option Bytes :=
  if h : l = [] then (if st = 0 then some [] else none)
  else if st = 0 then
    if nth l 0 = 39 then sh 1 (l.drop 1)
    else if nth l 0 = 92 ∧ nth l 1 = 39 then (sh 0 (l.drop 2)).map (39 :: ·)
    else if nth l 0 = 36 ∧ nth l 1 = 39 then sh 2 (l.drop 2)
    else if kc (l.take (sz l)) = 0 then (sh 0 (l.drop (sz l))).map (l.take (sz l) ++ ·)
    else none
  else if st = 1 then
    if nth l 0 = 39 then sh 0 (l.drop 1) else (sh 1 (l.drop 1)).map (l.headD 0 :: ·)
  else
    if nth l 0 = 39 then sh 0 (l.drop 1)
    else if h2 : (rdE l).2 = 0 then none
    else (sh 2 (l.drop (rdE l).2)).map ((rdE l).1 :: ·)
termination_by l.length
decreasing_by
  all_goals
    have : 0 < l.length := List.length_pos_iff.2 h
    have := sz_bd l
    rw [List.length_drop]
    omega
def shP (l : Bytes) : Option Bytes := if l = [] then none else sh 0 l
/-- What C reads behind the first quote. -/
def cIn (l : Bytes) : Option Bytes :=
  if h : l = [] then none
  else if nth l 0 = 34 then (if l.drop 1 = [] then some [] else none)
  else if nth l 0 = 92 then
    if nth l 1 = 34 ∨ nth l 1 = 92 then (cIn (l.drop 2)).map ((l.drop 1).headD 0 :: ·)
    else if h2 : (rdE l).2 = 0 then none
    else (cIn (l.drop (rdE l).2)).map ((rdE l).1 :: ·)
  else (cIn (l.drop 1)).map (l.headD 0 :: ·)
termination_by l.length
decreasing_by
  all_goals
    have : 0 < l.length := List.length_pos_iff.2 h
    rw [List.length_drop]
    omega
def cP (l : Bytes) : Option Bytes := if nth l 0 = 34 then cIn (l.drop 1) else none

theorem nth_cons (b : UInt8) (l : Bytes) : nth (b :: l) 0 = b.toNat := rfl
theorem nth_cons1 (b : UInt8) (l : Bytes) (i : Nat) : nth (b :: l) (i + 1) = nth l i := rfl
theorem toNat_eq {b : UInt8} {n : Nat} (hn : n < 256) : b.toNat = n ↔ b = n.toUInt8 := by
  rw [← UInt8.toNat_inj]
  have : n.toUInt8.toNat = n := by simp [Nat.mod_eq_of_lt hn]
  rw [this]

theorem sh_nil (st : Nat) : sh st [] = if st = 0 then some [] else none := by rw [sh]; simp
theorem sh0_q {l : Bytes} (h : nth l 0 = 39) : sh 0 l = sh 1 (l.drop 1) := by
  have hl : l ≠ [] := by rintro rfl; exact absurd h (by decide)
  rw [sh, dif_neg hl, if_pos rfl, if_pos h]
theorem sh0_b {l : Bytes} (h : nth l 0 = 92) (h1 : nth l 1 = 39) : sh 0 l = (sh 0 (l.drop 2)).map (39 :: ·) := by
  have hl : l ≠ [] := by rintro rfl; exact absurd h (by decide)
  rw [sh, dif_neg hl, if_pos rfl, if_neg (by omega), if_pos ⟨h, h1⟩]
theorem sh0_d {l : Bytes} (h : nth l 0 = 36) (h1 : nth l 1 = 39) : sh 0 l = sh 2 (l.drop 2) := by
  have hl : l ≠ [] := by rintro rfl; exact absurd h (by decide)
  rw [sh, dif_neg hl, if_pos rfl, if_neg (by omega), if_neg (by omega), if_pos ⟨h, h1⟩]
theorem sh0_p {l : Bytes} (hl : l ≠ []) (h : nth l 0 ≠ 39) (h1 : ¬ (nth l 0 = 92 ∧ nth l 1 = 39)) (h2 : ¬ (nth l 0 = 36 ∧ nth l 1 = 39)) (hk : kc (l.take (sz l)) = 0) :
    sh 0 l = (sh 0 (l.drop (sz l))).map (l.take (sz l) ++ ·) := by
  rw [sh, dif_neg hl, if_pos rfl, if_neg h, if_neg h1, if_neg h2, if_pos hk]
theorem sh0_x {l : Bytes} (hl : l ≠ []) (h : nth l 0 ≠ 39) (h1 : ¬ (nth l 0 = 92 ∧ nth l 1 = 39)) (h2 : ¬ (nth l 0 = 36 ∧ nth l 1 = 39)) (hk : kc (l.take (sz l)) ≠ 0) :
    sh 0 l = none := by
  rw [sh, dif_neg hl, if_pos rfl, if_neg h, if_neg h1, if_neg h2, if_neg hk]
theorem sh1_q {l : Bytes} (h : nth l 0 = 39) : sh 1 l = sh 0 (l.drop 1) := by
  have hl : l ≠ [] := by rintro rfl; exact absurd h (by decide)
  rw [sh, dif_neg hl, if_neg (by decide), if_pos rfl, if_pos h]
theorem sh1_c {l : Bytes} (hl : l ≠ []) (h : nth l 0 ≠ 39) : sh 1 l = (sh 1 (l.drop 1)).map (l.headD 0 :: ·) := by
  rw [sh, dif_neg hl, if_neg (by decide), if_pos rfl, if_neg h]
theorem sh2_q {l : Bytes} (h : nth l 0 = 39) : sh 2 l = sh 0 (l.drop 1) := by
  have hl : l ≠ [] := by rintro rfl; exact absurd h (by decide)
  rw [sh, dif_neg hl, if_neg (by decide), if_neg (by decide), if_pos h]
theorem sh2_e {l : Bytes} (hl : l ≠ []) (h : nth l 0 ≠ 39) (h2 : (rdE l).2 ≠ 0) : sh 2 l = (sh 2 (l.drop (rdE l).2)).map ((rdE l).1 :: ·) := by
  rw [sh, dif_neg hl, if_neg (by decide), if_neg (by decide), if_neg h, dif_neg h2]
theorem sh2_x {l : Bytes} (h : nth l 0 ≠ 39) (h2 : (rdE l).2 = 0) : sh 2 l = none := by
  by_cases hl : l = []
  · subst hl; rw [sh_nil]; rfl
  · rw [sh, dif_neg hl, if_neg (by decide), if_neg (by decide), if_neg h, dif_pos h2]

theorem sh1_qb (l r : Bytes) : sh 1 (l.flatMap qb ++ 39 :: r) = (sh 0 r).map (l ++ ·) := by
  induction l with
  | nil =>
    rw [List.flatMap_nil, List.nil_append, sh1_q rfl]
    show sh 0 r = _
    cases sh 0 r <;> rfl
  | cons b l ih =>
    rw [List.flatMap_cons, List.append_assoc]
    by_cases hb : b = 39
    · subst hb
      show sh 1 (39 :: 92 :: 39 :: 39 :: (l.flatMap qb ++ 39 :: r)) = _
      rw [sh1_q rfl]
      show sh 0 (92 :: 39 :: 39 :: (l.flatMap qb ++ 39 :: r)) = _
      rw [sh0_b rfl rfl]
      show (sh 0 (39 :: (l.flatMap qb ++ 39 :: r))).map _ = _
      rw [sh0_q rfl]
      show (sh 1 (l.flatMap qb ++ 39 :: r)).map _ = _
      rw [ih, Option.map_map]
      rfl
    · have e : qb b = [b] := by unfold qb; rw [if_neg hb]
      rw [e]
      show sh 1 (b :: (l.flatMap qb ++ 39 :: r)) = _
      rw [sh1_c (by simp) (by rw [nth_cons]; exact fun h => hb ((toNat_eq (by decide)).1 h))]
      show (sh 1 (l.flatMap qb ++ 39 :: r)).map _ = _
      rw [ih, Option.map_map]
      rfl
theorem sh0_bt (l r : Bytes) : sh 0 (bt l ++ r) = (sh 0 r).map (l ++ ·) := by
  unfold bt
  rw [List.cons_append, sh0_q rfl]
  show sh 1 (l.flatMap qb ++ [39] ++ r) = _
  rw [List.append_assoc]
  exact sh1_qb l r
theorem rdE_esc (b : UInt8) (r : Bytes) : rdE (esc b ++ r) = (b, (esc b).length) := by
  by_cases h10 : b = 10
  · subst h10; rfl
  · by_cases h9 : b = 9
    · subst h9; rfl
    · have e : esc b = [92, 48 + b / 64, 48 + b / 8 % 8, 48 + b % 8] := by unfold esc; rw [if_neg h10, if_neg h9]
      have hb := b.toNat_lt
      have d1 : (48 + b / 64 : UInt8).toNat = 48 + b.toNat / 64 := by
        rw [UInt8.toNat_add, UInt8.toNat_div]; show (48 + b.toNat / 64) % 256 = _; omega
      have d2 : (48 + b / 8 % 8 : UInt8).toNat = 48 + b.toNat / 8 % 8 := by
        rw [UInt8.toNat_add, UInt8.toNat_mod, UInt8.toNat_div]; show (48 + b.toNat / 8 % 8) % 256 = _; omega
      have d3 : (48 + b % 8 : UInt8).toNat = 48 + b.toNat % 8 := by
        rw [UInt8.toNat_add, UInt8.toNat_mod]; show (48 + b.toNat % 8) % 256 = _; omega
      rw [e]
      show rdE (92 :: (48 + b / 64) :: (48 + b / 8 % 8) :: (48 + b % 8) :: r) = _
      have n0 : nth (92 :: (48 + b / 64) :: (48 + b / 8 % 8) :: (48 + b % 8) :: r) 0 = 92 := rfl
      have n1 : nth (92 :: (48 + b / 64) :: (48 + b / 8 % 8) :: (48 + b % 8) :: r) 1 = 48 + b.toNat / 64 := d1
      have n2 : nth (92 :: (48 + b / 64) :: (48 + b / 8 % 8) :: (48 + b % 8) :: r) 2 = 48 + b.toNat / 8 % 8 := d2
      have n3 : nth (92 :: (48 + b / 64) :: (48 + b / 8 % 8) :: (48 + b % 8) :: r) 3 = 48 + b.toNat % 8 := d3
      unfold rdE
      rw [n0, n1, n2, n3, if_neg (by omega), if_neg (by omega), if_pos (by omega)]
      have : (48 + b.toNat / 64 - 48) * 64 + (48 + b.toNat / 8 % 8 - 48) * 8 + (48 + b.toNat % 8 - 48) = b.toNat := by omega
      rw [this]
      simp
theorem esc_ne (b : UInt8) : ∃ x y r, esc b = 92 :: x :: r ∧ y = x.toNat ∧ y ≠ 34 ∧ y ≠ 92 ∧ y ≠ 39 := by
  unfold esc
  split
  · exact ⟨110, 110, [], rfl, rfl, by decide, by decide, by decide⟩
  · split
    · exact ⟨116, 116, [], rfl, rfl, by decide, by decide, by decide⟩
    · have hb := b.toNat_lt
      have d1 : (48 + b / 64 : UInt8).toNat = 48 + b.toNat / 64 := by
        rw [UInt8.toNat_add, UInt8.toNat_div]; show (48 + b.toNat / 64) % 256 = _; omega
      exact ⟨_, _, _, rfl, d1.symm, by omega, by omega, by omega⟩
theorem sh2_esc (l r : Bytes) : sh 2 (l.flatMap esc ++ 39 :: r) = (sh 0 r).map (l ++ ·) := by
  induction l with
  | nil =>
    rw [List.flatMap_nil, List.nil_append, sh2_q rfl]
    show sh 0 r = _
    cases sh 0 r <;> rfl
  | cons b l ih =>
    rw [List.flatMap_cons, List.append_assoc]
    obtain ⟨x, y, q, he, _⟩ := esc_ne b
    have hr := rdE_esc b (l.flatMap esc ++ 39 :: r)
    rw [sh2_e (by rw [he]; simp) (by rw [he]; show (92 : UInt8).toNat ≠ 39; decide) (by rw [hr, he]; simp), hr]
    dsimp only
    rw [List.drop_left, ih, Option.map_map]
    rfl
theorem sh0_hardS (l r : Bytes) : sh 0 (hardS l ++ r) = (sh 0 r).map (l ++ ·) := by
  unfold hardS
  rw [List.cons_append, List.cons_append, sh0_d rfl rfl]
  show sh 2 (l.flatMap esc ++ [39] ++ r) = _
  rw [List.append_assoc]
  exact sh2_esc l r
theorem back_str (l : Bytes) : sh 0 (strP (chunks l)) = some l := by
  obtain ⟨n, hn⟩ : ∃ n, l.length = n := ⟨_, rfl⟩
  induction n using Nat.strongRecOn generalizing l with
  | _ n ih =>
    by_cases hl : l = []
    · subst hl; rw [chunks_nil, strP_nil, sh_nil]; rfl
    · obtain ⟨n1, h1⟩ : ∃ n1, runP false l = n1 := ⟨_, rfl⟩
      obtain ⟨n2, h2⟩ : ∃ n2, runP true (l.drop n1) = n2 := ⟨_, rfl⟩
      have a3 : n1 = 0 → 0 < n2 := fun h0 => by rw [← h2, h0, List.drop_zero]; exact run_some hl (by rw [h1, h0])
      have h0 : 0 < l.length := List.length_pos_iff.2 hl
      rw [strP_at hl h1 h2]
      have i1 := ih _ (by rw [← hn, List.length_drop, List.length_drop]; omega) ((l.drop n1).drop n2) rfl
      have e2 : sh 0 ((if n2 = 0 then [] else hardS ((l.drop n1).take n2)) ++ strP (chunks ((l.drop n1).drop n2))) = some (l.drop n1) := by
        by_cases hz : n2 = 0
        · rw [if_pos hz, List.nil_append, i1, hz, List.drop_zero]
        · rw [if_neg hz, sh0_hardS, i1]
          exact congrArg some (List.take_append_drop _ _)
      by_cases hz : n1 = 0
      · rw [if_pos hz, List.nil_append, e2, hz, List.drop_zero]
      · rw [if_neg hz, sh0_bt, e2]
        exact congrArg some (List.take_append_drop _ _)
theorem plainB_no {n : Nat} (h : plainB n = true) : n ≠ 39 ∧ n ≠ 92 ∧ n ≠ 36 ∧ n ≠ 34 := by
  refine ⟨?_, ?_, ?_, ?_⟩ <;> (rintro rfl; exact absurd h (by decide))
theorem kb_zero {n : Nat} (h : kb n = 0) : plainB n = true := by
  unfold kb at h
  split at h
  · cases h
  · split at h
    · assumption
    · cases h
/-- A plain character begins with none of these. -/
theorem plain_no {l : Bytes} (hl : l ≠ []) (h : kc (l.take (sz l)) = 0) : nth l 0 ≠ 39 ∧ nth l 0 ≠ 92 ∧ nth l 0 ≠ 36 := by
  by_cases h1 : 1 < sz l
  · have := multi_high h1 0 (by omega)
    omega
  · have hs : sz l = 1 := by have := sz_bd l; omega
    rw [hs] at h
    cases l with
    | nil => exact absurd rfl hl
    | cons b r =>
      have := plainB_no (kb_zero (n := b.toNat) h)
      exact ⟨this.1, this.2.1, this.2.2.1⟩
theorem back_plain (l : Bytes) : allPlain l = true → sh 0 l = some l := by
  refine by_drop (P := fun l => allPlain l = true → sh 0 l = some l) ?_ ?_ l
  · intro _; rw [sh_nil]; rfl
  · intro l hl ih h
    rw [allPlain_step hl, Bool.and_eq_true] at h
    have hk := beq_iff_eq.1 h.1
    obtain ⟨p1, p2, p3⟩ := plain_no hl hk
    rw [sh0_p hl p1 (fun x => p2 x.1) (fun x => p3 x.1) hk, ih h.2]
    exact congrArg some (List.take_append_drop _ _)
theorem bt_ne (l : Bytes) : bt l ≠ [] := by unfold bt; simp
theorem back2 (l : Bytes) : shP (quoteP 2 l) = some l := by
  show shP (bt l) = _
  unfold shP
  rw [if_neg (bt_ne l)]
  have := sh0_bt l []
  rw [List.append_nil, sh_nil] at this
  rw [this]
  simp
theorem back_bare (l : Bytes) : shP (bareP l) = some l := by
  unfold bareP
  split
  · rename_i h
    unfold shP
    rw [if_neg h.1]
    exact back_plain l h.2
  · exact back2 l
theorem back1 (l : Bytes) : shP (quoteP 1 l) = some l := back_bare l
theorem back3 (l : Bytes) : shP (quoteP 3 l) = some l := by
  show shP (if hasHard l then strP (chunks l) else bareP l) = _
  split
  · rename_i h
    have hl : l ≠ [] := by rintro rfl; rw [hasHard, chunks_nil] at h; cases h
    have e := back_str l
    unfold shP
    rw [if_neg, e]
    intro h0
    rw [h0, sh_nil] at e
    exact hl (by injection e with e; exact e.symm)
  · exact back_bare l

theorem cIn_all {c : Bytes} (hc : ∀ b ∈ c, b.toNat ≠ 34 ∧ b.toNat ≠ 92) (r : Bytes) : cIn (c ++ r) = (cIn r).map (c ++ ·) := by
  induction c with
  | nil => rw [List.nil_append]; cases cIn r <;> rfl
  | cons b c ih =>
    have hb := hc b (by simp)
    rw [List.cons_append, cIn, dif_neg (by simp), if_neg (by rw [nth_cons]; exact hb.1), if_neg (by rw [nth_cons]; exact hb.2)]
    show (cIn (c ++ r)).map _ = _
    rw [ih (fun x hx => hc x (by simp [hx])), Option.map_map]
    rfl
theorem cIn_esc (b : UInt8) (r : Bytes) : cIn (esc b ++ r) = (cIn r).map (b :: ·) := by
  obtain ⟨x, y, q, he, hy, n1, n2, _⟩ := esc_ne b
  have hr := rdE_esc b r
  have hne : esc b ++ r ≠ [] := by rw [he]; simp
  have e0 : nth (esc b ++ r) 0 = 92 := by rw [he]; rfl
  have e1 : nth (esc b ++ r) 1 = y := by rw [he, hy]; rfl
  rw [cIn, dif_neg hne, if_neg (by omega), if_pos e0, if_neg (by omega), dif_neg (by rw [hr, he]; simp), hr]
  dsimp only
  rw [List.drop_left]
theorem cIn_bsC {c : Bytes} (hc : Chr c) (r : Bytes) : cIn (bsC 34 c ++ r) = (cIn r).map (c ++ ·) := by
  rcases hc with ⟨b, rfl⟩ | ⟨h2, _, hi⟩
  · by_cases hh : hardC [b] = true
    · have e : bsC 34 [b] = esc b := by simp only [bsC, hh, if_true]
      rw [e]
      exact cIn_esc b r
    · by_cases hs : b = 92 ∨ b = 34
      · have e : bsC 34 [b] = [92, b] := by simp only [bsC]; rw [if_neg hh, if_pos hs]
        rw [e]
        show cIn (92 :: b :: r) = _
        have e1 : nth (92 :: b :: r) 1 = b.toNat := rfl
        have e2 : b.toNat = 34 ∨ b.toNat = 92 := by rcases hs with rfl | rfl <;> decide
        rw [cIn, dif_neg (by simp), if_neg (by rw [nth_cons]; decide), if_pos (show nth (92 :: b :: r) 0 = 92 from rfl), if_pos (by rw [e1]; exact e2)]
        rfl
      · have e : bsC 34 [b] = [b] := by simp only [bsC]; rw [if_neg hh, if_neg hs]
        rw [e]
        refine cIn_all ?_ r
        intro x hx
        rw [List.mem_singleton] at hx
        subst hx
        exact ⟨fun h => hs (.inr ((toNat_eq (by decide)).1 h)), fun h => hs (.inl ((toNat_eq (by decide)).1 h))⟩
  · match c, h2 with
    | b :: c', h2 =>
      have hh : hardC (b :: c') = false := by unfold hardC; rw [kc_multi h2]; rfl
      have hb := hi b (by simp)
      have e : bsC 34 (b :: c') = b :: c' := by
        simp only [bsC]
        rw [hh, if_neg (by decide), if_neg]
        rintro (rfl | rfl)
        · exact absurd hb (by decide)
        · exact absurd hb (by decide)
      rw [e]
      exact cIn_all (fun x hx => by have := hi x hx; omega) r
theorem back_c (cs : List Bytes) (hc : ∀ c ∈ cs, Chr c) : cIn (cs.flatMap (bsC 34) ++ [34]) = some cs.flatten := by
  induction cs with
  | nil => rw [List.flatMap_nil, List.nil_append, cIn]; simp [nth_cons]
  | cons c cs ih =>
    rw [List.flatMap_cons, List.append_assoc, cIn_bsC (hc c (by simp)), ih (fun x hx => hc x (by simp [hx]))]
    rfl
theorem back4 (l : Bytes) : cP (quoteP 4 l) = some l := by
  show cP (34 :: (bsP 34 l ++ [34])) = _
  unfold cP
  rw [if_pos (show nth (34 :: (bsP 34 l ++ [34])) 0 = 34 from rfl)]
  show cIn (bsP 34 l ++ [34]) = _
  unfold bsP
  rw [back_c _ (chunks_chr l), chunks_flat]
/-- Quoted alike, the same. -/
theorem quote_inj (style : Int) (h1 : 1 ≤ style) (h4 : style ≤ 4) (a b : Bytes) (h : quoteP style a = quoteP style b) : a = b := by
  have : style = 1 ∨ style = 2 ∨ style = 3 ∨ style = 4 := by omega
  rcases this with rfl | rfl | rfl | rfl
  · exact Option.some.inj ((back1 a).symm.trans ((congrArg shP h).trans (back1 b)))
  · exact Option.some.inj ((back2 a).symm.trans ((congrArg shP h).trans (back2 b)))
  · exact Option.some.inj ((back3 a).symm.trans ((congrArg shP h).trans (back3 b)))
  · exact Option.some.inj ((back4 a).symm.trans ((congrArg cP h).trans (back4 b)))
end Go.Proofs.YtlilnljneakngaaDoor
