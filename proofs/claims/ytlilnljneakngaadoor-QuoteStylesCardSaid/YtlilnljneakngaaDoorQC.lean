/-
  What quote.C returns: what C reads. Conditions: the text has at most 1000000 bytes.
-/
import Derived.Test.YtlilnljneakngaaDoorQOwn
set_option linter.unusedVariables false
namespace Go.Proofs.YtlilnljneakngaaDoor
open Go.RowKit

/-- What a reader answers. -/
def ansT (o : Option Bytes) : Bytes := o.getD []
def ansB (o : Option Bytes) : Bool := o.isSome
theorem ret_ans {o : Option Bytes} {t : ByteArray} {b : Bool} (ht : t = T (ansT o)) (hb : b = ansB o) : Ending.returned (.tuple #[.string t, .bool b]) = .returned (.tuple #[.string (T (ansT o)), .bool (ansB o)]) := by rw [ht, hb]
theorem ret_none {o : Option Bytes} (h : o = none) : Ending.returned (.tuple #[.string ⟨#[]⟩, .bool false]) = .returned (.tuple #[.string (T (ansT o)), .bool (ansB o)]) := by subst h; rfl
theorem ret_some {o : Option Bytes} {l : Bytes} (h : o = some l) : Ending.returned (.tuple #[.string (T l), .bool true]) = .returned (.tuple #[.string (T (ansT o)), .bool (ansB o)]) := by subst h; rfl

theorem cIn_q {l : Bytes} (h : nth l 0 = 34) : cIn l = if l.drop 1 = [] then some [] else none := by
  have hl : l ≠ [] := by rintro rfl; exact absurd h (by decide)
  rw [cIn, dif_neg hl, if_pos h]
theorem cIn_p {l : Bytes} (hl : l ≠ []) (h : nth l 0 ≠ 34) (h1 : nth l 0 ≠ 92) : cIn l = (cIn (l.drop 1)).map (l.headD 0 :: ·) := by
  rw [cIn, dif_neg hl, if_neg h, if_neg h1]
theorem cIn_b {l : Bytes} (h : nth l 0 = 92) (h1 : nth l 1 = 34 ∨ nth l 1 = 92) : cIn l = (cIn (l.drop 2)).map ((l.drop 1).headD 0 :: ·) := by
  have hl : l ≠ [] := by rintro rfl; exact absurd h (by decide)
  rw [cIn, dif_neg hl, if_neg (by omega), if_pos h, if_pos h1]
theorem cIn_e {l : Bytes} (h : nth l 0 = 92) (h1 : ¬ (nth l 1 = 34 ∨ nth l 1 = 92)) (h2 : (rdE l).2 ≠ 0) : cIn l = (cIn (l.drop (rdE l).2)).map ((rdE l).1 :: ·) := by
  have hl : l ≠ [] := by rintro rfl; exact absurd h (by decide)
  rw [cIn, dif_neg hl, if_neg (by omega), if_pos h, if_neg h1, dif_neg h2]
theorem cIn_x {l : Bytes} (h : nth l 0 = 92) (h1 : ¬ (nth l 1 = 34 ∨ nth l 1 = 92)) (h2 : (rdE l).2 = 0) : cIn l = none := by
  have hl : l ≠ [] := by rintro rfl; exact absurd h (by decide)
  rw [cIn, dif_neg hl, if_neg (by omega), if_pos h, if_neg h1, dif_pos h2]
theorem cIn_nil : cIn [] = none := by rw [cIn]; simp
theorem map_more (o : Option Bytes) (out : Bytes) (b : UInt8) : (o.map (b :: ·)).map (out ++ ·) = o.map (out ++ [b] ++ ·) := by
  rw [Option.map_map]
  congr 1
  funext x
  simp
theorem map_more2 (o : Option Bytes) (out p : Bytes) : (o.map (p ++ ·)).map (out ++ ·) = o.map (out ++ p ++ ·) := by
  rw [Option.map_map]
  congr 1
  funext x
  simp
theorem headD_get (l : Bytes) (h : 0 < l.length) : l.headD 0 = l[0]'h := by
  cases l with
  | nil => simp at h
  | cons b r => rfl
theorem headD1_get (l : Bytes) (h : 1 < l.length) : (l.drop 1).headD 0 = l[1]'h := by
  match l, h with
  | a :: b :: r, _ => rfl
theorem headD_at (t : ByteArray) (h0 : 0 < t.size) : (L t).headD 0 = t[0]'h0 := headD_get (L t) _
theorem headD1_at (t : ByteArray) (h1 : 1 < t.size) : ((L t).drop 1).headD 0 = t[1]'h1 := headD1_get (L t) _

def CRel (s : ByteArray) (w : World) (l : Nat) (v v4 : Value) (w' : World) : Prop :=
  ∃ (t : ByteArray) (out : Bytes), v = .string t ∧ out.length + t.size ≤ s.size ∧ Own w v4 out w' ∧ (cIn (L t)).map (out ++ ·) = cP (L s) ∧ (l = 2 ∨ (l = 1 ∧ nth (L t) 0 = 92) ∨ (l = 0 ∧ nth (L t) 0 = 34))
def JC (s : ByteArray) (w : World) (l : Nat) (a' : Act) (w' : World) : Prop := ∃ u0 u4 u5 u6 u7 u8 u9 u10 u11 u12 u13 u14 u15 u16 u17 u18 u19 u20 u21 u22 u23 u24 u25 u26 u27 u28 u29 u30 u31 u32 u33 u34 u35 u36 u37 u38 u39 u40 u41 u42 u43 u44 u45 u46 u47 u48 u49 u50 u51 u52 u53 u54 u55 u56 u57 u58 u59 : Value, CRel s w l u0 u4 w' ∧ a' = { tmps := #[u0, undef, .string ⟨#[]⟩, .bool false, u4, u5, u6, u7, u8, u9, u10, u11, u12, u13, u14, u15, u16, u17, u18, u19, u20, u21, u22, u23, u24, u25, u26, u27, u28, u29, u30, u31, u32, u33, u34, u35, u36, u37, u38, u39, u40, u41, u42, u43, u44, u45, u46, u47, u48, u49, u50, u51, u52, u53, u54, u55, u56, u57, u58, u59], defers := [] }
def muC (l : Nat) (a : Act) (w : World) : Nat := 2 * (textOf (a.tmps.getD 0 undef)).size + (if l = 2 then 1 else 0)

set_option maxHeartbeats 2000000 in
set_option maxRecDepth 100000 in
theorem c_any (s : ByteArray) (w : World) (hs : s.size ≤ 1000000) :
    Calls Tryd.prog 13 #[.string s] w fun e w' => e = .returned (.tuple #[.string (T (ansT (cP (L s)))), .bool (ansB (cP (L s)))]) ∧ Below w.heap.size w w' := by
  go_enter Tryd.func13, Tryd.ntmps13
  go_wp2_with fail
  refine wp_scope_hops (JC s w) muC ?pass ?start
  case pass =>
    rintro l a' w' ⟨u0, u4, u5, u6, u7, u8, u9, u10, u11, u12, u13, u14, u15, u16, u17, u18, u19, u20, u21, u22, u23, u24, u25, u26, u27, u28, u29, u30, u31, u32, u33, u34, u35, u36, u37, u38, u39, u40, u41, u42, u43, u44, u45, u46, u47, u48, u49, u50, u51, u52, u53, u54, u55, u56, u57, u58, u59, ⟨t, out, rfl, hsz, hown, hr, hl⟩, rfl⟩
    have HR := Lib.hid hr
    have HO := Lib.hid hown
    clear hr hown
    rcases hl with rfl | ⟨rfl, hb⟩ | ⟨rfl, hb⟩
    · refine ⟨_, rfl, ?_⟩
      by_cases hne : L t = []
      · have he := empty_true hne
        have HN : Hid (cP (L s) = none) := Lib.hid (by rw [← HR.out, hne, cIn_nil]; rfl)
        go_wp2_with fail
        refine hops_ret ?_
        go_ret2
        exact ⟨ret_none HN.out, HO.out.below⟩
      · have he := empty_false hne
        have h0 : 0 < t.size := L_ne.1 hne
        have e0 := get_nth' t 0 h0
        have HD := Lib.hid (headD_at t h0)
        obtain ⟨c, hc⟩ : ∃ c, t[0]'h0 = c := ⟨_, rfl⟩
        rw [hc] at e0 HD
        obtain ⟨n, hn⟩ : ∃ n, nth (L t) 0 = n := ⟨_, rfl⟩
        rw [hn] at e0
        have HT := Lib.hid hn
        have HC1 : Hid (n ≠ 34 → n ≠ 92 → (cIn (L t)) = (cIn ((L t).drop 1)).map (c :: ·)) := Lib.hid (fun h1 h2 => by rw [cIn_p hne (by rw [hn]; exact h1) (by rw [hn]; exact h2), HD.out])
        clear hn hne
        by_cases h34 : n = 34
        · have HT2 : Hid (nth (L t) 0 = 34) := Lib.hid (by rw [HT.out, h34])
          have hx : ((n : Int) == 34) = true := by rw [h34]; rfl
          clear h34

          go_wp2_with fail
          go_step3
          show JC s w 0 _ _ ∧ _
          refine ⟨?_, ?measure⟩
          unfold JC
          (repeat apply Exists.intro)
          refine ⟨?rel, rfl⟩
          case rel => exact ⟨t, out, rfl, hsz, HO.out, HR.out, .inr (.inr ⟨rfl, HT2.out⟩)⟩
          case measure => show 2 * t.size + 0 < 2 * t.size + 1; omega
        · have hx : ((n : Int) == 34) = false := beq_eq_false_iff_ne.2 (by omega)
          by_cases h92 : n = 92
          · have HT2 : Hid (nth (L t) 0 = 92) := Lib.hid (by rw [HT.out, h92])
            have hy : ((n : Int) == 92) = true := by rw [h92]; rfl
            clear h92 h34

            go_wp2_with fail
            go_step3
            show JC s w 1 _ _ ∧ _
            refine ⟨?_, ?measure⟩
            unfold JC
            (repeat apply Exists.intro)
            refine ⟨?rel, rfl⟩
            case rel => exact ⟨t, out, rfl, hsz, HO.out, HR.out, .inr (.inl ⟨rfl, HT2.out⟩)⟩
            case measure => show 2 * t.size + 0 < 2 * t.size + 1; omega
          · have hy : ((n : Int) == 92) = false := beq_eq_false_iff_ne.2 (by omega)
            have HC2 := Lib.hid (HC1.out h34 h92)
            have hz := tail_size t 1
            clear h92 h34

            go_wp2_with (at_builtin; refine app_byte (v := u4) (out := out) rfl _ _ rfl w rfl c (by rw [e0]) HO.out rfl (by omega) ?_)
            intro v' w2 hown
            have HO2 := Lib.hid hown
            clear hown
            go_wp2_with fail
            go_step3
            show JC s w 2 _ _ ∧ _
            refine ⟨?_, ?measure⟩
            unfold JC
            (repeat apply Exists.intro)
            refine ⟨?rel, rfl⟩
            case rel => exact ⟨t.extract 1 t.size, out ++ [c], rfl, by rw [List.length_append]; simp only [List.length_cons, List.length_nil]; omega, HO2.out, by rw [← HR.out, HC2.out, map_more, L_from], .inl rfl⟩
            case measure => show 2 * (t.extract 1 t.size).size + 1 < 2 * t.size + 1; omega
    · refine ⟨_, rfl, ?_⟩
      have h0 : 0 < t.size := by have := nth_in (l := L t) (i := 0) (by omega); rw [L_len] at this; exact this
      by_cases h2 : nth (L t) 1 = 34 ∨ nth (L t) 1 = 92
      · have h1 : 1 < t.size := by have := nth_in (l := L t) (i := 1) (by omega); rw [L_len] at this; exact this
        have e1 := get_nth' t 1 h1
        obtain ⟨c, hc⟩ : ∃ c, t[1]'h1 = c := ⟨_, rfl⟩
        rw [hc] at e1
        have HC : Hid (cIn (L t) = (cIn ((L t).drop 2)).map (c :: ·)) := Lib.hid (by rw [cIn_b hb h2, headD1_at t h1, hc])
        obtain ⟨n, hn⟩ : ∃ n, c.toNat = n := ⟨_, rfl⟩
        have hz := tail_size t 2
        by_cases hq : nth (L t) 1 = 34
        · have c1 := has2 t 92 34 w' (by decide) (by decide) true (decide_eq_true ⟨hb, hq⟩)
          clear hb h2 hq e1
          go_wp2_with fail
          refine c1.mono ?_
          rintro e w2 ⟨rfl, rfl⟩
          go_wp2_with (at_builtin; refine app_byte (v := u4) (out := out) rfl _ _ rfl w rfl c (by rw [hn]) HO.out rfl (by omega) ?_)
          intro v' w3 hown
          have HO2 := Lib.hid hown
          clear hown
          go_wp2_with fail
          go_step3
          show JC s w 2 _ _ ∧ _
          refine ⟨?_, ?measure⟩
          unfold JC
          (repeat apply Exists.intro)
          refine ⟨?rel, rfl⟩
          case rel => exact ⟨t.extract 2 t.size, out ++ [c], rfl, by rw [List.length_append]; simp only [List.length_cons, List.length_nil]; omega, HO2.out, by rw [← HR.out, HC.out, map_more, L_from], .inl rfl⟩
          case measure => show 2 * (t.extract 2 t.size).size + 1 < 2 * t.size + 0; omega
        · have hq2 : nth (L t) 1 = 92 := by omega
          have c1 := has2 t 92 34 w' (by decide) (by decide) false (decide_eq_false (fun h => hq h.2))
          have c2 := has2 t 92 92 w' (by decide) (by decide) true (decide_eq_true ⟨hb, hq2⟩)
          clear hb h2 hq hq2 e1
          go_wp2_with fail
          refine c1.mono ?_
          rintro e w2 ⟨rfl, rfl⟩
          go_wp2_with fail
          refine c2.mono ?_
          rintro e w2 ⟨rfl, rfl⟩
          go_wp2_with (at_builtin; refine app_byte (v := u4) (out := out) rfl _ _ rfl w rfl c (by rw [hn]) HO.out rfl (by omega) ?_)
          intro v' w3 hown
          have HO2 := Lib.hid hown
          clear hown
          go_wp2_with fail
          go_step3
          show JC s w 2 _ _ ∧ _
          refine ⟨?_, ?measure⟩
          unfold JC
          (repeat apply Exists.intro)
          refine ⟨?rel, rfl⟩
          case rel => exact ⟨t.extract 2 t.size, out ++ [c], rfl, by rw [List.length_append]; simp only [List.length_cons, List.length_nil]; omega, HO2.out, by rw [← HR.out, HC.out, map_more, L_from], .inl rfl⟩
          case measure => show 2 * (t.extract 2 t.size).size + 1 < 2 * t.size + 0; omega
      · have c1 := has2 t 92 34 w' (by decide) (by decide) false (decide_eq_false (fun h => h2 (.inl h.2)))
        have c2 := has2 t 92 92 w' (by decide) (by decide) false (decide_eq_false (fun h => h2 (.inr h.2)))
        have c3 := readEscape_any t w' (by omega)
        have hle := rdE_le (L t)
        rw [L_len] at hle
        obtain ⟨c, hc⟩ : ∃ c, (rdE (L t)).1 = c := ⟨_, rfl⟩
        obtain ⟨k, hk⟩ : ∃ k, (rdE (L t)).2 = k := ⟨_, rfl⟩
        rw [hc, hk] at c3
        rw [hk] at hle
        obtain ⟨n, hn⟩ : ∃ n, c.toNat = n := ⟨_, rfl⟩
        rw [hn] at c3
        by_cases hk0 : k = 0
        · have HN : Hid (cP (L s) = none) := Lib.hid (by rw [← HR.out, cIn_x hb h2 (by rw [hk, hk0])]; rfl)
          subst hk0
          clear hb h2 hk
          go_wp2_with fail
          refine c1.mono ?_
          rintro e w2 ⟨rfl, rfl⟩
          go_wp2_with fail
          refine c2.mono ?_
          rintro e w2 ⟨rfl, rfl⟩
          go_wp2_with fail
          refine c3.mono ?_
          rintro e w2 ⟨rfl, rfl⟩
          go_wp2_with fail
          refine hops_ret ?_
          go_ret2
          exact ⟨ret_none HN.out, HO.out.below⟩
        · have HC : Hid (cIn (L t) = (cIn ((L t).drop k)).map (c :: ·)) := Lib.hid (by rw [cIn_e hb h2 (by rw [hk]; exact hk0), hc, hk])
          have hq : ((k : Int) == 0) = false := beq_eq_false_iff_ne.2 (by omega)
          have hz := tail_size t k
          clear hb h2 hk
          go_wp2_with fail
          refine c1.mono ?_
          rintro e w2 ⟨rfl, rfl⟩
          go_wp2_with fail
          refine c2.mono ?_
          rintro e w2 ⟨rfl, rfl⟩
          go_wp2_with fail
          refine c3.mono ?_
          rintro e w2 ⟨rfl, rfl⟩
          go_wp2_with (at_builtin; refine app_byte (v := u4) (out := out) rfl _ _ rfl w rfl c (by rw [hn]) HO.out rfl (by omega) ?_)
          intro v' w3 hown
          have HO2 := Lib.hid hown
          clear hown
          go_wp2_with fail
          go_step3
          show JC s w 2 _ _ ∧ _
          refine ⟨?_, ?measure⟩
          unfold JC
          (repeat apply Exists.intro)
          refine ⟨?rel, rfl⟩
          case rel => exact ⟨t.extract k t.size, out ++ [c], rfl, by rw [List.length_append]; simp only [List.length_cons, List.length_nil]; omega, HO2.out, by rw [← HR.out, HC.out, map_more, L_from], .inl rfl⟩
          case measure => show 2 * (t.extract k t.size).size + 1 < 2 * t.size + 0; omega
    · refine ⟨_, rfl, ?_⟩
      have hz34 : (ByteArray.mk #[34]).size = 1 := rfl
      have h0 : 0 < t.size := by have := nth_in (l := L t) (i := 0) (by omega); rw [L_len] at this; exact this
      have e0 := get_nth' t 0 h0
      by_cases h1 : (L t).drop 1 = []
      · have ht : L t = [34] := by
          have := headD_at t h0
          cases hl : L t with
          | nil => rw [hl] at hb; exact absurd hb (by decide)
          | cons b r =>
            rw [hl] at h1 hb
            have : b = 34 := (toNat_eq (by decide)).1 hb
            rw [this, show r = [] from h1]
        have hq : (t.toList == [34]) = true := by rw [toList_L, ht]; rfl
        have HN : Hid (cP (L s) = some out) := Lib.hid (by rw [← HR.out, cIn_q hb, if_pos h1]; simp)
        have hcv := own_string HO.out
        go_wp2_with fail
        refine hops_ret ?_
        go_ret2
        exact ⟨ret_some HN.out, HO.out.below⟩
      · have hq : (t.toList == [34]) = false := by
          rw [toList_L]
          exact beq_eq_false_iff_ne.2 (fun e => h1 (by rw [e]; rfl))
        have HN : Hid (cP (L s) = none) := Lib.hid (by rw [← HR.out, cIn_q hb, if_neg h1]; rfl)
        clear hb e0 h1
        go_wp2_with fail
        refine hops_ret ?_
        go_ret2
        exact ⟨ret_none HN.out, HO.out.below⟩
  case start =>
    by_cases h34 : nth (L s) 0 = 34
    · have h0 : 0 < s.size := by have := nth_in (l := L s) (i := 0) (by omega); rw [L_len] at this; exact this
      have he := empty_false (L_ne.2 h0)
      have e0 := get_nth' s 0 h0
      rw [h34] at e0
      have hz0 := tail_size s 1
      have HR1 : Hid ((cIn (L (s.extract 1 s.size))).map (([] : Bytes) ++ ·) = cP (L s)) := Lib.hid (by
        unfold cP
        rw [if_pos h34, L_from]
        simp)
      go_wp2_with fail
      obtain ⟨t, ht⟩ : ∃ t, s.extract 1 s.size = t := ⟨_, rfl⟩
      rw [ht] at HR1 hz0 ⊢
      have HO := Lib.hid (Own.none w)
      obtain ⟨out, hout⟩ : ∃ out : Bytes, [] = out := ⟨_, rfl⟩
      have hl0 : out.length = 0 := by rw [← hout]; rfl
      rw [hout] at HO HR1
      have HR := HR1
      have hsz : out.length + t.size ≤ s.size := by omega
      clear ht he e0 h34 h0 hout HR1 hz0
      by_cases hne : L t = []
      · have he := empty_true hne
        have HN : Hid (cP (L s) = none) := Lib.hid (by rw [← HR.out, hne, cIn_nil]; rfl)
        go_step3
        go_wp2_with fail
        refine hops_ret ?_
        go_ret2
        exact ⟨ret_none HN.out, HO.out.below⟩
      · have he := empty_false hne
        have h0 : 0 < t.size := L_ne.1 hne
        have e0 := get_nth' t 0 h0
        have HD := Lib.hid (headD_at t h0)
        obtain ⟨c, hc⟩ : ∃ c, t[0]'h0 = c := ⟨_, rfl⟩
        rw [hc] at e0 HD
        obtain ⟨n, hn⟩ : ∃ n, nth (L t) 0 = n := ⟨_, rfl⟩
        rw [hn] at e0
        have HT := Lib.hid hn
        have HC1 : Hid (n ≠ 34 → n ≠ 92 → (cIn (L t)) = (cIn ((L t).drop 1)).map (c :: ·)) := Lib.hid (fun h1 h2 => by rw [cIn_p hne (by rw [hn]; exact h1) (by rw [hn]; exact h2), HD.out])
        clear hn hne
        by_cases h34 : n = 34
        · have HT2 : Hid (nth (L t) 0 = 34) := Lib.hid (by rw [HT.out, h34])
          have hx : ((n : Int) == 34) = true := by rw [h34]; rfl
          clear h34
          go_step3
          go_wp2_with fail
          go_step3
          show JC s w 0 _ _
          unfold JC
          (repeat apply Exists.intro)
          refine ⟨?rel, rfl⟩
          case rel => exact ⟨t, out, rfl, hsz, HO.out, HR.out, .inr (.inr ⟨rfl, HT2.out⟩)⟩
        · have hx : ((n : Int) == 34) = false := beq_eq_false_iff_ne.2 (by omega)
          by_cases h92 : n = 92
          · have HT2 : Hid (nth (L t) 0 = 92) := Lib.hid (by rw [HT.out, h92])
            have hy : ((n : Int) == 92) = true := by rw [h92]; rfl
            clear h92 h34
            go_step3
            go_wp2_with fail
            go_step3
            show JC s w 1 _ _
            unfold JC
            (repeat apply Exists.intro)
            refine ⟨?rel, rfl⟩
            case rel => exact ⟨t, out, rfl, hsz, HO.out, HR.out, .inr (.inl ⟨rfl, HT2.out⟩)⟩
          · have hy : ((n : Int) == 92) = false := beq_eq_false_iff_ne.2 (by omega)
            have HC2 := Lib.hid (HC1.out h34 h92)
            have hz := tail_size t 1
            clear h92 h34
            go_step3
            go_wp2_with (at_builtin; refine app_byte (v := .slice none 0 0) (out := out) rfl _ _ rfl w rfl c (by rw [e0]) HO.out rfl (by omega) ?_)
            intro v' w2 hown
            have HO2 := Lib.hid hown
            clear hown
            go_wp2_with fail
            go_step3
            show JC s w 2 _ _
            unfold JC
            (repeat apply Exists.intro)
            refine ⟨?rel, rfl⟩
            case rel => exact ⟨t.extract 1 t.size, out ++ [c], rfl, by rw [List.length_append]; simp only [List.length_cons, List.length_nil]; omega, HO2.out, by rw [← HR.out, HC2.out, map_more, L_from], .inl rfl⟩
    · have HN : Hid (cP (L s) = none) := Lib.hid (by unfold cP; rw [if_neg h34])
      by_cases hne : L s = []
      · have he := empty_true hne
        go_wp2_with fail
        refine hops_ret ?_
        go_ret2
        exact ⟨ret_none HN.out, Below.refl _ _⟩
      · have he := empty_false hne
        have h0 : 0 < s.size := L_ne.1 hne
        have e0 := get_nth' s 0 h0
        obtain ⟨n, hn⟩ : ∃ n, nth (L s) 0 = n := ⟨_, rfl⟩
        rw [hn] at e0 h34
        have hx : ((n : Int) == 34) = false := beq_eq_false_iff_ne.2 (by omega)
        go_wp2_with fail
        refine hops_ret ?_
        go_ret2
        exact ⟨ret_none HN.out, Below.refl _ _⟩
end Go.Proofs.YtlilnljneakngaaDoor
