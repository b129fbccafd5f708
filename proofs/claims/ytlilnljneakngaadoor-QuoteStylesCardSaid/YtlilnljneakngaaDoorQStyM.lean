/-
  Plain facts on the reference's way to quote: byte by byte it comes to the same. Conditions: none.
-/
import Derived.Test.YtlilnljneakngaaDoorQCleanM
import Derived.Test.YtlilnljneakngaaDoorQRefM
set_option linter.unusedVariables false
namespace Go.Proofs.YtlilnljneakngaaDoor

/-- With backslashes, byte by byte. -/
def bsB (sign : UInt8) (b : UInt8) (k : Nat) : Bytes := if k = 2 then esc b else if b = 92 ∨ b = sign then [92, b] else [b]
def rfB (sign : UInt8) : Bytes → List Nat → Bytes
  | b :: l, k :: ks => bsB sign b k ++ rfB sign l ks
  | _, _ => []
theorem rfB_app (sign : UInt8) : ∀ (c : Bytes) (k1 : List Nat) (r : Bytes) (k2 : List Nat), c.length = k1.length → rfB sign (c ++ r) (k1 ++ k2) = rfB sign c k1 ++ rfB sign r k2
  | [], [], _, _, _ => rfl
  | [], _ :: _, _, _, h => by simp at h
  | _ :: _, [], _, _, h => by simp at h
  | b :: c, k :: k1, r, k2, h => by
    simp only [List.cons_append, rfB, List.append_assoc]
    rw [rfB_app sign c k1 r k2 (by simpa using h)]
theorem rfB_high (sign : UInt8) (hs : sign.toNat < 128) : ∀ (c : Bytes), (∀ b ∈ c, 128 ≤ b.toNat) → rfB sign c (List.replicate c.length 1) = c
  | [], _ => rfl
  | b :: c, h => by
    have hb := h b (by simp)
    simp only [List.length_cons, List.replicate_succ, rfB]
    rw [rfB_high sign hs c (fun x hx => h x (by simp [hx]))]
    unfold bsB
    rw [if_neg (by decide), if_neg]
    · rfl
    · rintro (rfl | rfl)
      · exact absurd hb (by decide)
      · omega
theorem rk_two (c : Bytes) : (rk c = 2) = (hardC c = true) := by
  unfold rk hardC
  apply propext
  by_cases h1 : kc c = 1
  · rw [if_pos h1, h1]; exact ⟨fun _ => rfl, fun _ => rfl⟩
  · rw [if_neg h1]
    have : (kc c == 1) = false := beq_eq_false_iff_ne.2 h1
    rw [this]
    split
    · exact Iff.intro (fun h => absurd h (by decide)) (fun h => by cases h)
    · exact Iff.intro (fun h => absurd h (by decide)) (fun h => by cases h)
theorem rfB_chunk (sign : UInt8) (hs : sign.toNat < 128) {c : Bytes} (hc : Chr c) : rfB sign c (List.replicate c.length (rk c)) = bsC sign c := by
  rcases hc with ⟨b, rfl⟩ | ⟨h2, hz, hi⟩
  · show bsB sign b (rk [b]) ++ [] = _
    rw [List.append_nil]
    unfold bsB
    have h2 := rk_two [b]
    cases hh : hardC [b] with
    | true =>
      rw [hh] at h2
      rw [if_pos (h2.mpr rfl)]
      simp only [bsC, hh, if_true]
    | false =>
      rw [hh] at h2
      rw [if_neg (fun e => by have := h2.mp e; cases this)]
      simp only [bsC]
      rw [hh, if_neg (show ¬ (false = true) by decide)]
  · have hh : hardC c = false := by unfold hardC; rw [kc_multi h2]; rfl
    have hr : rk c = 1 := by unfold rk; rw [kc_multi h2]; rfl
    rw [hr, rfB_high sign hs c hi]
    match c, h2 with
    | b :: q, _ =>
      simp only [bsC]
      have hb := hi b (by simp)
      rw [hh, if_neg (by decide), if_neg]
      rintro (rfl | rfl)
      · exact absurd hb (by decide)
      · omega
theorem rfB_all (sign : UInt8) (hs : sign.toNat < 128) (l : Bytes) : rfB sign l (kindsP l) = bsP sign l := by
  refine by_drop (P := fun l => rfB sign l (kindsP l) = bsP sign l) ?_ ?_ l
  · rw [kindsP_nil, bsP_nil]; rfl
  · intro l h ih
    have hle := sz_le l h
    have hlen : (l.take (sz l)).length = sz l := by rw [List.length_take]; omega
    rw [bsP_step sign h, ← ih, ← rfB_chunk sign hs (chr_first l h), hlen]
    rw [← rfB_app sign _ _ _ _ (by rw [hlen, List.length_replicate]), List.take_append_drop, ← kindsP_step h]

abbrev Tag := UInt8 × Nat
def isH (x : Tag) : Bool := x.2 == 2
def gB (x : Tag) : Bytes := if x.2 = 2 then esc x.1 else [x.1]
def wrapS (h : Bool) (p : Bytes) : Bytes := if h then 36 :: 39 :: (p ++ [39]) else bt p
/-- Does a stretch end ahead of these? -/
def brk (h : Bool) : List Tag → Bool
  | [] => true
  | y :: _ => isH y != h
/-- The stretches, byte by byte. -/
def rf3 : Bytes → List Tag → Bytes
  | _, [] => []
  | part, x :: ts => if brk (isH x) ts then wrapS (isH x) (part ++ gB x) ++ rf3 [] ts else rf3 (part ++ gB x) ts
theorem rf3_run (h : Bool) (ts2 : List Tag) (hb : brk h ts2 = true) : ∀ (ts1 : List Tag) (part : Bytes), ts1 ≠ [] → (∀ x ∈ ts1, isH x = h) → rf3 part (ts1 ++ ts2) = wrapS h (part ++ ts1.flatMap gB) ++ rf3 [] ts2
  | [], _, hn, _ => absurd rfl hn
  | [x], part, _, hx => by
    have e := hx x (by simp)
    simp only [List.cons_append, List.nil_append, rf3]
    rw [e, if_pos hb]
    simp
  | x :: y :: r, part, _, hx => by
    have e := hx x (by simp)
    have e2 := hx y (by simp)
    have hbr : brk (isH x) (y :: r ++ ts2) = false := by
      show (isH y != isH x) = false
      rw [e, e2]
      cases h <;> rfl
    rw [List.cons_append, rf3, hbr, if_neg (by decide), rf3_run h ts2 hb (y :: r) (part ++ gB x) (by simp) (fun z hz => hx z (by simp [hz]))]
    simp [List.append_assoc]
def tagsOf (cs : List Bytes) : List Tag := cs.flatMap (fun c => c.map (fun b => (b, rk c)))
theorem tags_app (a b : List Bytes) : tagsOf (a ++ b) = tagsOf a ++ tagsOf b := by unfold tagsOf; rw [List.flatMap_append]
theorem zip_rep (r : Nat) : ∀ c : Bytes, c.zip (List.replicate c.length r) = c.map (fun b => (b, r))
  | [] => rfl
  | b :: c => by rw [List.length_cons, List.replicate_succ, List.zip_cons_cons, zip_rep r c]; rfl
theorem zip_tags (l : Bytes) : l.zip (kindsP l) = tagsOf (chunks l) := by
  refine by_drop (P := fun l => l.zip (kindsP l) = tagsOf (chunks l)) ?_ ?_ l
  · rw [chunks_nil]; rfl
  · intro l h ih
    have hle := sz_le l h
    have hlen : (l.take (sz l)).length = sz l := by rw [List.length_take]; omega
    rw [chunks_step l h]
    show _ = (l.take (sz l)).map (fun b => (b, rk (l.take (sz l)))) ++ tagsOf (chunks (l.drop (sz l)))
    rw [← ih, kindsP_step h]
    conv => lhs; arg 1; rw [← List.take_append_drop (sz l) l]
    rw [List.zip_append (by rw [hlen, List.length_replicate])]
    congr 1
    rw [← zip_rep, hlen]
theorem tag_hard {c : Bytes} {x : Tag} (h : x ∈ c.map (fun b => (b, rk c))) : isH x = hardC c := by
  obtain ⟨b, _, rfl⟩ := List.mem_map.1 h
  have := rk_two c
  unfold isH
  cases hc : hardC c with
  | true => rw [hc] at this; exact beq_iff_eq.2 (this.mpr rfl)
  | false =>
    rw [hc] at this
    exact beq_eq_false_iff_ne.2 (fun e => by have := this.mp e; cases this)
theorem tags_all {cs : List Bytes} {h : Bool} (hc : ∀ c ∈ cs, hardC c = h) : ∀ x ∈ tagsOf cs, isH x = h := by
  intro x hx
  obtain ⟨c, hm, hx⟩ := List.mem_flatMap.1 hx
  rw [tag_hard hx, hc c hm]
theorem tags_soft {cs : List Bytes} (hc : ∀ c ∈ cs, hardC c = false) : (tagsOf cs).flatMap gB = cs.flatten := by
  induction cs with
  | nil => rfl
  | cons c cs ih =>
    show (c.map (fun b => (b, rk c)) ++ tagsOf cs).flatMap gB = _
    rw [List.flatMap_append, ih (fun x hx => hc x (by simp [hx])), List.flatten_cons]
    congr 1
    have hr : rk c ≠ 2 := by rw [Ne, rk_two, hc c (by simp)]; decide
    rw [List.flatMap_map]
    have : (fun b => gB (b, rk c)) = fun b => [b] := by
      funext b
      unfold gB
      rw [if_neg hr]
    rw [this]
    simp
theorem tags_hard {cs : List Bytes} (hc : ∀ c ∈ cs, hardC c = true) : (tagsOf cs).flatMap gB = cs.flatten.flatMap esc := by
  induction cs with
  | nil => rfl
  | cons c cs ih =>
    show (c.map (fun b => (b, rk c)) ++ tagsOf cs).flatMap gB = _
    rw [List.flatMap_append, ih (fun x hx => hc x (by simp [hx])), List.flatten_cons, List.flatMap_append]
    congr 1
    have hr : rk c = 2 := by rw [rk_two]; exact hc c (by simp)
    rw [List.flatMap_map]
    have : (fun b => gB (b, rk c)) = esc := by
      funext b
      unfold gB
      rw [if_pos hr]
    rw [this]
theorem tags_ne {cs : List Bytes} (hn : ∀ c ∈ cs, c ≠ []) (h : cs ≠ []) : tagsOf cs ≠ [] := by
  cases cs with
  | nil => exact absurd rfl h
  | cons c r =>
    have := hn c (by simp)
    cases c with
    | nil => exact absurd rfl this
    | cons b q => simp [tagsOf]
theorem drop_head {p : Bytes → Bool} : ∀ {l : List Bytes} {x : Bytes} {r : List Bytes}, l.dropWhile p = x :: r → p x = false
  | [], _, _, h => by cases h
  | a :: l, x, r, h => by
    rw [List.dropWhile_cons] at h
    split at h
    · exact drop_head h
    · rename_i hp
      injection h with h1 h2
      rw [← h1]
      simpa using hp
theorem brk_tags {h : Bool} {cs : List Bytes} (hn : ∀ c ∈ cs, c ≠ []) (hh : ∀ x r, cs = x :: r → hardC x = !h) : brk h (tagsOf cs) = true := by
  cases cs with
  | nil => rfl
  | cons c r =>
    have h1 := hn c (by simp)
    have h2 := hh c r rfl
    cases c with
    | nil => exact absurd rfl h1
    | cons b q =>
      show (isH (b, rk (b :: q)) != h) = true
      rw [tag_hard (c := b :: q) (x := (b, rk (b :: q))) (by simp), h2]
      cases h <;> rfl
theorem rf3_str (cs : List Bytes) : (∀ c ∈ cs, c ≠ []) → rf3 [] (tagsOf cs) = strP cs := by
  obtain ⟨n, hn⟩ : ∃ n, cs.length = n := ⟨_, rfl⟩
  induction n using Nat.strongRecOn generalizing cs with
  | _ n ih =>
    intro hne
    by_cases h0 : cs = []
    · subst h0; rw [strP_nil]; rfl
    · rw [strP, dif_neg h0]
      obtain ⟨p, hp⟩ : ∃ p, cs.takeWhile (fun c => !hardC c) = p := ⟨_, rfl⟩
      obtain ⟨q, hq⟩ : ∃ q, cs.dropWhile (fun c => !hardC c) = q := ⟨_, rfl⟩
      have hpq : cs = p ++ q := by rw [← hp, ← hq]; exact (List.takeWhile_append_dropWhile).symm
      rw [hp, hq]
      obtain ⟨h, hh⟩ : ∃ h, q.takeWhile hardC = h := ⟨_, rfl⟩
      obtain ⟨r, hr⟩ : ∃ r, q.dropWhile hardC = r := ⟨_, rfl⟩
      have hhr : q = h ++ r := by rw [← hh, ← hr]; exact (List.takeWhile_append_dropWhile).symm
      rw [hh, hr]
      have pn : ∀ c ∈ p, c ≠ [] := fun c hc => hne c (by rw [hpq]; simp [hc])
      have qn : ∀ c ∈ q, c ≠ [] := fun c hc => hne c (by rw [hpq]; simp [hc])
      have hnn : ∀ c ∈ h, c ≠ [] := fun c hc => qn c (by rw [hhr]; simp [hc])
      have rn : ∀ c ∈ r, c ≠ [] := fun c hc => qn c (by rw [hhr]; simp [hc])
      have psoft : ∀ c ∈ p, hardC c = false := fun c hc => by
        rw [← hp] at hc
        have := mem_takeWhile hc
        simpa using this
      have hhard : ∀ c ∈ h, hardC c = true := fun c hc => by
        rw [← hh] at hc
        exact mem_takeWhile hc
      have qhead : ∀ x y, q = x :: y → hardC x = true := fun x y e => by
        rw [← hq] at e
        have := drop_head e
        simpa using this
      have rhead : ∀ x y, r = x :: y → hardC x = false := fun x y e => by
        rw [← hr] at e
        exact drop_head e
      have hsmall : h ≠ [] → r.length < cs.length := fun hne0 => by
        rw [hpq, hhr, List.length_append, List.length_append]
        have := List.length_pos_iff.2 hne0
        omega
      have e2 : rf3 [] (tagsOf q) = (if h = [] then [] else hardS h.flatten) ++ strP r := by
        by_cases hz : h = []
        · rw [if_pos hz, List.nil_append]
          have hq0 : q = [] := by
            cases q with
            | nil => rfl
            | cons x y =>
              have := qhead x y rfl
              rw [List.takeWhile_cons, if_pos this] at hh
              rw [hz] at hh
              cases hh
          rw [hq0] at hr ⊢
          rw [← hr]
          rw [show ([] : List Bytes).dropWhile hardC = [] from rfl, strP_nil]
          rfl
        · rw [if_neg hz, hhr, tags_app, rf3_run true (tagsOf r) (brk_tags rn (fun x y e => by rw [rhead x y e]; rfl)) (tagsOf h) [] (tags_ne hnn hz) (tags_all hhard), tags_hard hhard,
            ih _ (by rw [← hn]; exact hsmall hz) r rfl rn]
          rfl
      rw [← e2]
      by_cases hz : p = []
      · rw [if_pos hz, hpq, hz]
        rfl
      · rw [if_neg hz, hpq, tags_app, rf3_run false (tagsOf q) (brk_tags qn (fun x y e => by rw [qhead x y e]; rfl)) (tagsOf p) [] (tags_ne pn hz) (tags_all psoft), tags_soft psoft]
        rfl
theorem rf3_all (l : Bytes) : rf3 [] (l.zip (kindsP l)) = strP (chunks l) := by
  rw [zip_tags]
  exact rf3_str _ (fun c hc => (chunks_chr l c hc).ne)
theorem kinds_hard (l : Bytes) : (kindsP l).any (· == 2) = hasHard l := by
  unfold kindsP hasHard
  have : ∀ cs : List Bytes, (∀ c ∈ cs, c ≠ []) → (cs.flatMap (fun c => List.replicate c.length (rk c))).any (· == 2) = cs.any hardC := by
    intro cs
    induction cs with
    | nil => intro _; rfl
    | cons c cs ih =>
      intro hn
      rw [List.flatMap_cons, List.any_append, ih (fun x hx => hn x (by simp [hx])), List.any_cons]
      congr 1
      have hc := hn c (by simp)
      have h2 := rk_two c
      have hl : c.length ≠ 0 := by simpa using hc
      cases hh : hardC c with
      | true =>
        rw [hh] at h2
        rw [List.any_replicate, if_neg hl, h2.mpr rfl]
        rfl
      | false =>
        rw [hh] at h2
        rw [List.any_replicate, if_neg hl]
        exact beq_eq_false_iff_ne.2 (fun e => by have := h2.mp e; cases this)
  exact this _ (fun c hc => (chunks_chr l c hc).ne)
theorem kinds_plain (l : Bytes) : (kindsP l).all (· == 1) = allPlain l := by
  unfold kindsP allPlain
  have : ∀ cs : List Bytes, (∀ c ∈ cs, c ≠ []) → (cs.flatMap (fun c => List.replicate c.length (rk c))).all (· == 1) = cs.all (fun c => kc c == 0) := by
    intro cs
    induction cs with
    | nil => intro _; rfl
    | cons c cs ih =>
      intro hn
      rw [List.flatMap_cons, List.all_append, ih (fun x hx => hn x (by simp [hx])), List.all_cons]
      congr 1
      have hc := hn c (by simp)
      have hl : c.length ≠ 0 := by simpa using hc
      rw [List.all_replicate, if_neg hl]
      by_cases h0 : kc c = 0
      · rw [rk_plain.2 h0, h0]; rfl
      · rw [beq_eq_false_iff_ne.2 h0]
        exact beq_eq_false_iff_ne.2 (fun e => h0 (rk_plain.1 e))
  exact this _ (fun c hc => (chunks_chr l c hc).ne)
end Go.Proofs.YtlilnljneakngaaDoor
