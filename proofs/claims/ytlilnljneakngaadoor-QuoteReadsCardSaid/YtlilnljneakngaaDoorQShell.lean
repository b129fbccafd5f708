/-
  What quote.Shell returns: what a shell reads. Conditions: the text has at most 1000000 bytes; the library's tables lie.
-/
import Derived.Test.YtlilnljneakngaaDoorQC
set_option linter.unusedVariables false
namespace Go.Proofs.YtlilnljneakngaaDoor
open Go.RowKit

theorem sh1_none : ∀ {l : Bytes}, (39 : UInt8) ∉ l → sh 1 l = none
  | [], _ => by rw [sh_nil]; rfl
  | b :: r, h => by
    rw [List.mem_cons, not_or] at h
    have hb : nth (b :: r) 0 ≠ 39 := fun e => h.1 ((toNat_eq (by decide)).1 e).symm
    rw [sh1_c (by simp) hb]
    show (sh 1 r).map _ = _
    rw [sh1_none h.2]
    rfl
theorem sh1_some : ∀ {p : Bytes} (r : Bytes), (39 : UInt8) ∉ p → sh 1 (p ++ 39 :: r) = (sh 0 r).map (p ++ ·)
  | [], r, _ => by
    rw [List.nil_append, sh1_q rfl]
    show sh 0 r = _
    cases sh 0 r <;> rfl
  | b :: p, r, h => by
    rw [List.mem_cons, not_or] at h
    have hb : nth (b :: p ++ 39 :: r) 0 ≠ 39 := fun e => h.1 ((toNat_eq (by decide)).1 e).symm
    rw [sh1_c (by simp) hb]
    show (sh 1 (p ++ 39 :: r)).map _ = _
    rw [sh1_some r h.2, Option.map_map]
    rfl
theorem sh1_at {l : Bytes} {i : Nat} (h : Lib.indexByte l 39 = (i : Int)) : sh 1 l = (sh 0 (l.drop (i + 1))).map (l.take i ++ ·) := by
  obtain ⟨_, h2, h3⟩ := idx_split l 39 i h
  conv => lhs; rw [← List.take_append_drop i l, h3]
  exact sh1_some _ h2

def ShRel (s : ByteArray) (w : World) (l : Nat) (v v4 : Value) (w' : World) : Prop :=
  ∃ (t : ByteArray) (out : Bytes), v = .string t ∧ out.length + t.size ≤ s.size ∧ Own w v4 out w' ∧
    ((l = 1 ∧ (sh 0 (L t)).map (out ++ ·) = sh 0 (L s)) ∨ (l = 0 ∧ (sh 1 (L t)).map (out ++ ·) = sh 0 (L s)) ∨ (l = 2 ∧ (sh 2 (L t)).map (out ++ ·) = sh 0 (L s)))
def JS (s : ByteArray) (w : World) (l : Nat) (a' : Act) (w' : World) : Prop := ∃ u0 u4 u5 u6 u7 u8 u9 u10 u11 u12 u13 u14 u15 u16 u17 u18 u19 u20 u21 u22 u23 u24 u25 u26 u27 u28 u29 u30 u31 u32 u33 u34 u35 u36 u37 u38 u39 u40 u41 u42 u43 u44 u45 u46 u47 u48 u49 u50 u51 u52 u53 u54 u55 u56 u57 u58 u59 u60 u61 u62 u63 u64 u65 u66 u67 u68 u69 u70 u71 u72 u73 u74 u75 u76 u77 u78 u79 u80 : Value, ShRel s w l u0 u4 w' ∧ a' = { tmps := #[u0, undef, .string ⟨#[]⟩, .bool false, u4, u5, u6, u7, u8, u9, u10, u11, u12, u13, u14, u15, u16, u17, u18, u19, u20, u21, u22, u23, u24, u25, u26, u27, u28, u29, u30, u31, u32, u33, u34, u35, u36, u37, u38, u39, u40, u41, u42, u43, u44, u45, u46, u47, u48, u49, u50, u51, u52, u53, u54, u55, u56, u57, u58, u59, u60, u61, u62, u63, u64, u65, u66, u67, u68, u69, u70, u71, u72, u73, u74, u75, u76, u77, u78, u79, u80], defers := [] }
def muS (l : Nat) (a : Act) (w : World) : Nat := (textOf (a.tmps.getD 0 undef)).size

set_option maxHeartbeats 4000000 in
set_option maxRecDepth 100000 in
theorem shell_any (s : ByteArray) (w : World) (hT : Tab w) (hs : s.size ≤ 1000000) :
    Calls Tryd.prog 11 #[.string s] w fun e w' => e = .returned (.tuple #[.string (T (ansT (shP (L s)))), .bool (ansB (shP (L s)))]) ∧ Below w.heap.size w w' := by
  by_cases hne0 : L s = []
  · have he := empty_true hne0
    have HN : Hid (shP (L s) = none) := Lib.hid (by unfold shP; rw [if_pos hne0])
    go_enter Tryd.func11, Tryd.ntmps11
    go_wp2_with fail
    go_step3
    go_wp2_with fail
    first | (refine hops_ret ?_) | (rw [Exit.noGoto_ret]) | skip
    go_ret2
    exact ⟨ret_none HN.out, Below.refl _ _⟩
  have HP : Hid (shP (L s) = sh 0 (L s)) := Lib.hid (by unfold shP; rw [if_neg hne0])
  go_enter Tryd.func11, Tryd.ntmps11
  go_wp2_with fail
  refine wp_scope_hops (JS s w) muS ?pass ?start
  case pass =>
    clear hne0
    rintro l a' w' ⟨u0, u4, u5, u6, u7, u8, u9, u10, u11, u12, u13, u14, u15, u16, u17, u18, u19, u20, u21, u22, u23, u24, u25, u26, u27, u28, u29, u30, u31, u32, u33, u34, u35, u36, u37, u38, u39, u40, u41, u42, u43, u44, u45, u46, u47, u48, u49, u50, u51, u52, u53, u54, u55, u56, u57, u58, u59, u60, u61, u62, u63, u64, u65, u66, u67, u68, u69, u70, u71, u72, u73, u74, u75, u76, u77, u78, u79, u80, ⟨t, out, rfl, hsz, hown, hl⟩, rfl⟩
    have HO := Lib.hid hown
    clear hown
    rcases hl with ⟨rfl, hr⟩ | ⟨rfl, hr⟩ | ⟨rfl, hr⟩
    · refine ⟨_, rfl, ?_⟩
      have HR := Lib.hid hr
      clear hr
      by_cases hne : L t = []
      · have he := empty_true hne
        have HN : Hid (shP (L s) = some out) := Lib.hid (by rw [HP.out, ← HR.out, hne, sh_nil]; simp)
        have hcv := own_string HO.out
        go_wp2_with fail
        refine hops_ret ?_
        go_ret2
        exact ⟨ret_some HN.out, HO.out.below⟩
      · have he := empty_false hne
        have h0 : 0 < t.size := L_ne.1 hne
        have e0 := get_nth' t 0 h0
        obtain ⟨n, hn⟩ : ∃ n, nth (L t) 0 = n := ⟨_, rfl⟩
        rw [hn] at e0
        by_cases h39 : n = 39
        · have HS : Hid (sh 0 (L t) = sh 1 ((L t).drop 1)) := Lib.hid (sh0_q (by rw [hn, h39]))
          have hx : ((n : Int) == 39) = true := by rw [h39]; rfl
          have hz := tail_size t 1
          clear h39 hn hne
          go_wp2_with fail
          go_step3
          show JS s w 0 _ _ ∧ _
          refine ⟨?_, ?measure⟩
          unfold JS
          (repeat apply Exists.intro)
          refine ⟨?rel, rfl⟩
          case rel =>
            refine ⟨t.extract 1 t.size, out, rfl, ?len, HO.out, .inr (.inl ⟨rfl, ?eqn⟩)⟩
            case len => omega
            case eqn => rw [← HR.out, HS.out, L_from]
          case measure => show (t.extract 1 t.size).size < t.size; omega
        · have hx : ((n : Int) == 39) = false := beq_eq_false_iff_ne.2 (by omega)
          by_cases hb : nth (L t) 0 = 92 ∧ nth (L t) 1 = 39
          · have HS : Hid (sh 0 (L t) = (sh 0 ((L t).drop 2)).map (39 :: ·)) := Lib.hid (sh0_b hb.1 hb.2)
            have h1 : 1 < t.size := by have := nth_in (l := L t) (i := 1) (by omega); rw [L_len] at this; exact this
            have c1 := has2 t 92 39 w' (by decide) (by decide) true (decide_eq_true hb)
            have hz := tail_size t 2
            clear h39 hn hne hb
            go_wp2_with fail
            refine c1.mono ?_
            rintro e w2 ⟨rfl, rfl⟩
            go_wp2_with (at_builtin; refine app_byte (v := u4) (out := out) rfl _ _ rfl w rfl 39 rfl HO.out rfl (by omega) ?_)
            intro v' w3 hown
            have HO2 := Lib.hid hown
            clear hown
            go_wp2_with fail
            go_step3
            show JS s w 1 _ _ ∧ _
            refine ⟨?_, ?measure⟩
            unfold JS
            (repeat apply Exists.intro)
            refine ⟨?rel, rfl⟩
            case rel =>
              refine ⟨t.extract 2 t.size, out ++ [39], rfl, ?len, HO2.out, .inl ⟨rfl, ?eqn⟩⟩
              case len => rw [List.length_append]; simp only [List.length_cons, List.length_nil]; omega
              case eqn => rw [← HR.out, HS.out, map_more, L_from]
            case measure => show (t.extract 2 t.size).size < t.size; omega
          · have c1 := has2 t 92 39 w' (by decide) (by decide) false (decide_eq_false hb)
            by_cases hd : nth (L t) 0 = 36 ∧ nth (L t) 1 = 39
            · have HS : Hid (sh 0 (L t) = sh 2 ((L t).drop 2)) := Lib.hid (sh0_d hd.1 hd.2)
              have h1 : 1 < t.size := by have := nth_in (l := L t) (i := 1) (by omega); rw [L_len] at this; exact this
              have c2 := has2 t 36 39 w' (by decide) (by decide) true (decide_eq_true hd)
              have hz := tail_size t 2
              clear h39 hn hne hb hd
              go_wp2_with fail
              refine c1.mono ?_
              rintro e w2 ⟨rfl, rfl⟩
              go_wp2_with fail
              refine c2.mono ?_
              rintro e w2 ⟨rfl, rfl⟩
              go_wp2_with fail
              go_step3
              show JS s w 2 _ _ ∧ _
              refine ⟨?_, ?measure⟩
              unfold JS
              (repeat apply Exists.intro)
              refine ⟨?rel, rfl⟩
              case rel =>
                refine ⟨t.extract 2 t.size, out, rfl, ?len, HO.out, .inr (.inr ⟨rfl, ?eqn⟩)⟩
                case len => omega
                case eqn => rw [← HR.out, HS.out, L_from]
              case measure => show (t.extract 2 t.size).size < t.size; omega
            · have c2 := has2 t 36 39 w' (by decide) (by decide) false (decide_eq_false hd)
              obtain ⟨K, hK⟩ : ∃ K, sz (L t) = K := ⟨_, rfl⟩
              obtain ⟨k, hk⟩ : ∃ k, kc ((L t).take K) = k := ⟨_, rfl⟩
              have c3 := first_of t K k w' (HO.out.tab hT) hne hK hk
              have hbd : 1 ≤ K ∧ K ≤ 4 := by rw [← hK]; exact sz_bd _
              have hle : K ≤ t.size := by
                have h1 := sz_le _ hne
                rw [hK, L_len] at h1
                omega
              by_cases hk0 : k = 0
              · have HS : Hid (sh 0 (L t) = (sh 0 ((L t).drop K)).map ((L t).take K ++ ·)) := Lib.hid (by rw [sh0_p hne (by rw [hn]; exact h39) hb hd (by rw [hK, hk, hk0]), hK])
                have hz := tail_size t K
                have hza : (t.extract 0 K).size = K := by rw [← L_len, L_to, List.length_take, L_len]; omega
                subst hk0
                clear h39 hn hne hb hd hK hk
                go_wp2_with fail
                refine c1.mono ?_
                rintro e w2 ⟨rfl, rfl⟩
                go_wp2_with fail
                refine c2.mono ?_
                rintro e w2 ⟨rfl, rfl⟩
                go_wp2_with fail
                refine c3.mono ?_
                rintro e w3 ⟨rfl, hb3⟩
                have HO3 := Lib.hid (HO.out.keep hb3)
                clear hb3 c1 c2 c3
                go_wp2_with (at_builtin; refine app_text (v := u4) (out := out) rfl _ _ rfl w rfl HO3.out (t.extract 0 K) rfl (by omega) ?_)
                intro v' w4 hown
                have HO4 : Hid (Own w v' (out ++ (L t).take K) w4) := Lib.hid (by rw [← L_to]; exact hown)
                clear hown
                go_wp2_with fail
                go_step3
                show JS s w 1 _ _ ∧ _
                refine ⟨?_, ?measure⟩
                unfold JS
                (repeat apply Exists.intro)
                refine ⟨?rel, rfl⟩
                case rel =>
                  refine ⟨t.extract K t.size, out ++ (L t).take K, rfl, ?len, HO4.out, .inl ⟨rfl, ?eqn⟩⟩
                  case len => rw [List.length_append, List.length_take, L_len]; omega
                  case eqn => rw [← HR.out, HS.out, map_more2, L_from]
                case measure => show (t.extract K t.size).size < t.size; omega
              · have HN : Hid (shP (L s) = none) := Lib.hid (by rw [HP.out, ← HR.out, sh0_x hne (by rw [hn]; exact h39) hb hd (by rw [hK, hk]; exact hk0)]; rfl)
                have hq : (((k : Nat) : Int) == 0) = false := beq_eq_false_iff_ne.2 (by omega)
                clear h39 hn hne hb hd hK hk
                go_wp2_with fail
                refine c1.mono ?_
                rintro e w2 ⟨rfl, rfl⟩
                go_wp2_with fail
                refine c2.mono ?_
                rintro e w2 ⟨rfl, rfl⟩
                go_wp2_with fail
                refine c3.mono ?_
                rintro e w3 ⟨rfl, hb3⟩
                have HO3 := Lib.hid (HO.out.keep hb3)
                clear hb3 c1 c2 c3
                go_wp2_with fail
                refine hops_ret ?_
                go_ret2
                exact ⟨ret_none HN.out, HO3.out.below⟩
    · refine ⟨_, rfl, ?_⟩
      have HR := Lib.hid hr
      clear hr
      obtain ⟨I, hI⟩ : ∃ I, Lib.indexByte (L t) 39 = I := ⟨_, rfl⟩
      have c1 : Calls Tryd.prog 25 #[.string t, .int .u8 39] w' fun e w2 => e = .returned (.int .i64 I) ∧ w2 = w' := by
        rw [← hI]
        exact Tryd.strings_IndexByte t 39 w'
      have hbd := idx_bd (L t) 39
      rw [hI, L_len] at hbd
      by_cases hneg : I < 0
      · have HN : Hid (shP (L s) = none) := Lib.hid (by rw [HP.out, ← HR.out, sh1_none (idx_none (by rw [hI]; exact hneg))]; rfl)
        clear hI
        go_wp2_with fail
        refine c1.mono ?_
        rintro e w2 ⟨rfl, rfl⟩
        go_wp2_with fail
        refine hops_ret ?_
        go_ret2
        exact ⟨ret_none HN.out, HO.out.below⟩
      · obtain ⟨i, rfl⟩ : ∃ i : Nat, I = i := ⟨I.toNat, by omega⟩
        have HS : Hid (sh 1 (L t) = (sh 0 ((L t).drop (i + 1))).map ((L t).take i ++ ·)) := Lib.hid (sh1_at hI)
        have hz := tail_size t (i + 1)
        have hit : i < t.size := by omega
        have hza : (t.extract 0 i).size = i := by rw [← L_len, L_to, List.length_take, L_len]; omega
        have ht1 : ((i : Int) + 1).toNat = i + 1 := by omega
        clear hI hneg hbd
        go_wp2_with fail
        refine c1.mono ?_
        rintro e w2 ⟨rfl, rfl⟩
        go_wp2_with (at_builtin; refine app_text (v := u4) (out := out) rfl _ _ rfl w rfl HO.out (t.extract 0 i) rfl (by omega) ?_)
        intro v' w4 hown
        have HO4 : Hid (Own w v' (out ++ (L t).take i) w4) := Lib.hid (by rw [← L_to]; exact hown)
        clear hown
        go_wp2_with fail
        go_step3
        show JS s w 1 _ _ ∧ _
        refine ⟨?_, ?measure⟩
        unfold JS
        (repeat apply Exists.intro)
        refine ⟨?rel, rfl⟩
        case rel =>
          refine ⟨t.extract (i + 1) t.size, out ++ (L t).take i, rfl, ?len, HO4.out, .inl ⟨rfl, ?eqn⟩⟩
          case len => rw [List.length_append, List.length_take, L_len]; omega
          case eqn => rw [← HR.out, HS.out, map_more2, L_from]
        case measure => show (t.extract (i + 1) t.size).size < t.size; omega
    · refine ⟨_, rfl, ?_⟩
      have HR := Lib.hid hr
      clear hr
      by_cases hq : nth (L t) 0 = 39
      · have h0 : 0 < t.size := by have := nth_in (l := L t) (i := 0) (by omega); rw [L_len] at this; exact this
        have HS : Hid (sh 2 (L t) = sh 0 ((L t).drop 1)) := Lib.hid (sh2_q hq)
        have c1 := has1 t 39 w' (by decide) true (decide_eq_true hq)
        have hz := tail_size t 1
        clear hq
        go_wp2_with fail
        refine c1.mono ?_
        rintro e w2 ⟨rfl, rfl⟩
        go_wp2_with fail
        go_step3
        show JS s w 1 _ _ ∧ _
        refine ⟨?_, ?measure⟩
        unfold JS
        (repeat apply Exists.intro)
        refine ⟨?rel, rfl⟩
        case rel =>
          refine ⟨t.extract 1 t.size, out, rfl, ?len, HO.out, .inl ⟨rfl, ?eqn⟩⟩
          case len => omega
          case eqn => rw [← HR.out, HS.out, L_from]
        case measure => show (t.extract 1 t.size).size < t.size; omega
      · have c1 := has1 t 39 w' (by decide) false (decide_eq_false hq)
        have c3 := readEscape_any t w' (by omega)
        have hle := rdE_le (L t)
        rw [L_len] at hle
        obtain ⟨c, hc⟩ : ∃ c, (rdE (L t)).1 = c := ⟨_, rfl⟩
        obtain ⟨k, hk⟩ : ∃ k, (rdE (L t)).2 = k := ⟨_, rfl⟩
        rw [hc, hk] at c3
        rw [hk] at hle
        obtain ⟨n, hn⟩ : ∃ n, c.toNat = n := ⟨_, rfl⟩
        rw [hn] at c3
        by_cases hk0 : k = 0
        · have HN : Hid (shP (L s) = none) := Lib.hid (by rw [HP.out, ← HR.out, sh2_x hq (by rw [hk, hk0])]; rfl)
          subst hk0
          clear hq hk
          go_wp2_with fail
          refine c1.mono ?_
          rintro e w2 ⟨rfl, rfl⟩
          go_wp2_with fail
          refine c3.mono ?_
          rintro e w2 ⟨rfl, rfl⟩
          go_wp2_with fail
          refine hops_ret ?_
          go_ret2
          exact ⟨ret_none HN.out, HO.out.below⟩
        · have hne : L t ≠ [] := L_ne.2 (by omega)
          have HS : Hid (sh 2 (L t) = (sh 2 ((L t).drop k)).map (c :: ·)) := Lib.hid (by rw [sh2_e hne hq (by rw [hk]; exact hk0), hc, hk])
          have hx : ((k : Int) == 0) = false := beq_eq_false_iff_ne.2 (by omega)
          have hz := tail_size t k
          clear hq hk hne
          go_wp2_with fail
          refine c1.mono ?_
          rintro e w2 ⟨rfl, rfl⟩
          go_wp2_with fail
          refine c3.mono ?_
          rintro e w2 ⟨rfl, rfl⟩
          go_wp2_with (at_builtin; refine app_byte (v := u4) (out := out) rfl _ _ rfl w rfl c (by rw [hn]) HO.out rfl (by omega) ?_)
          intro v' w3 hown
          have HO2 := Lib.hid hown
          clear hown
          go_wp2_with fail
          go_step3
          show JS s w 2 _ _ ∧ _
          refine ⟨?_, ?measure⟩
          unfold JS
          (repeat apply Exists.intro)
          refine ⟨?rel, rfl⟩
          case rel =>
            refine ⟨t.extract k t.size, out ++ [c], rfl, ?len, HO2.out, .inr (.inr ⟨rfl, ?eqn⟩)⟩
            case len => rw [List.length_append]; simp only [List.length_cons, List.length_nil]; omega
            case eqn => rw [← HR.out, HS.out, map_more, L_from]
          case measure => show (t.extract k t.size).size < t.size; omega
  case start =>
    have he0 := empty_false hne0
    clear hne0
    go_wp2_with fail
    have HO := Lib.hid (Own.none w)
    obtain ⟨out, hout⟩ : ∃ out : Bytes, [] = out := ⟨_, rfl⟩
    have hl0 : out.length = 0 := by rw [← hout]; rfl
    rw [hout] at HO
    have hr : (sh 0 (L s)).map (out ++ ·) = sh 0 (L s) := by rw [← hout]; simp
    have hsz : out.length + s.size ≤ s.size := by omega
    clear hout he0
    have HR := Lib.hid hr
    clear hr
    by_cases hne : L s = []
    · have he := empty_true hne
      have HN : Hid (shP (L s) = some out) := Lib.hid (by rw [HP.out, ← HR.out, hne, sh_nil]; simp)
      have hcv := own_string HO.out
      go_step3
      go_wp2_with fail
      refine hops_ret ?_
      go_ret2
      exact ⟨ret_some HN.out, HO.out.below⟩
    · have he := empty_false hne
      have h0 : 0 < s.size := L_ne.1 hne
      have e0 := get_nth' s 0 h0
      obtain ⟨n, hn⟩ : ∃ n, nth (L s) 0 = n := ⟨_, rfl⟩
      rw [hn] at e0
      by_cases h39 : n = 39
      · have HS : Hid (sh 0 (L s) = sh 1 ((L s).drop 1)) := Lib.hid (sh0_q (by rw [hn, h39]))
        have hx : ((n : Int) == 39) = true := by rw [h39]; rfl
        have hz := tail_size s 1
        clear h39 hn hne
        go_step3
        go_wp2_with fail
        go_step3
        show JS s w 0 _ _
        unfold JS
        (repeat apply Exists.intro)
        refine ⟨?rel, rfl⟩
        case rel =>
          refine ⟨s.extract 1 s.size, out, rfl, ?len, HO.out, .inr (.inl ⟨rfl, ?eqn⟩)⟩
          case len => omega
          case eqn => rw [← HR.out, HS.out, L_from]
      · have hx : ((n : Int) == 39) = false := beq_eq_false_iff_ne.2 (by omega)
        by_cases hb : nth (L s) 0 = 92 ∧ nth (L s) 1 = 39
        · have HS : Hid (sh 0 (L s) = (sh 0 ((L s).drop 2)).map (39 :: ·)) := Lib.hid (sh0_b hb.1 hb.2)
          have h1 : 1 < s.size := by have := nth_in (l := L s) (i := 1) (by omega); rw [L_len] at this; exact this
          have c1 := has2 s 92 39 w (by decide) (by decide) true (decide_eq_true hb)
          have hz := tail_size s 2
          clear h39 hn hne hb
          go_step3
          go_wp2_with fail
          refine c1.mono ?_
          rintro e w2 ⟨rfl, hw2⟩
          rw [hw2]
          clear hw2
          go_wp2_with (at_builtin; refine app_byte (v := .slice none 0 0) (out := out) rfl _ _ rfl w rfl 39 rfl HO.out rfl (by omega) ?_)
          intro v' w3 hown
          have HO2 := Lib.hid hown
          clear hown
          go_wp2_with fail
          go_step3
          show JS s w 1 _ _
          unfold JS
          (repeat apply Exists.intro)
          refine ⟨?rel, rfl⟩
          case rel =>
            refine ⟨s.extract 2 s.size, out ++ [39], rfl, ?len, HO2.out, .inl ⟨rfl, ?eqn⟩⟩
            case len => rw [List.length_append]; simp only [List.length_cons, List.length_nil]; omega
            case eqn => rw [← HR.out, HS.out, map_more, L_from]
        · have c1 := has2 s 92 39 w (by decide) (by decide) false (decide_eq_false hb)
          by_cases hd : nth (L s) 0 = 36 ∧ nth (L s) 1 = 39
          · have HS : Hid (sh 0 (L s) = sh 2 ((L s).drop 2)) := Lib.hid (sh0_d hd.1 hd.2)
            have h1 : 1 < s.size := by have := nth_in (l := L s) (i := 1) (by omega); rw [L_len] at this; exact this
            have c2 := has2 s 36 39 w (by decide) (by decide) true (decide_eq_true hd)
            have hz := tail_size s 2
            clear h39 hn hne hb hd
            go_step3
            go_wp2_with fail
            refine c1.mono ?_
            rintro e w2 ⟨rfl, hw2⟩
            rw [hw2]
            clear hw2
            go_wp2_with fail
            refine c2.mono ?_
            rintro e w2 ⟨rfl, hw2⟩
            rw [hw2]
            clear hw2
            go_wp2_with fail
            go_step3
            show JS s w 2 _ _
            unfold JS
            (repeat apply Exists.intro)
            refine ⟨?rel, rfl⟩
            case rel =>
              refine ⟨s.extract 2 s.size, out, rfl, ?len, HO.out, .inr (.inr ⟨rfl, ?eqn⟩)⟩
              case len => omega
              case eqn => rw [← HR.out, HS.out, L_from]
          · have c2 := has2 s 36 39 w (by decide) (by decide) false (decide_eq_false hd)
            obtain ⟨K, hK⟩ : ∃ K, sz (L s) = K := ⟨_, rfl⟩
            obtain ⟨k, hk⟩ : ∃ k, kc ((L s).take K) = k := ⟨_, rfl⟩
            have c3 := first_of s K k w (HO.out.tab hT) hne hK hk
            have hbd : 1 ≤ K ∧ K ≤ 4 := by rw [← hK]; exact sz_bd _
            have hle : K ≤ s.size := by
              have h1 := sz_le _ hne
              rw [hK, L_len] at h1
              omega
            by_cases hk0 : k = 0
            · have HS : Hid (sh 0 (L s) = (sh 0 ((L s).drop K)).map ((L s).take K ++ ·)) := Lib.hid (by rw [sh0_p hne (by rw [hn]; exact h39) hb hd (by rw [hK, hk, hk0]), hK])
              have hz := tail_size s K
              have hza : (s.extract 0 K).size = K := by rw [← L_len, L_to, List.length_take, L_len]; omega
              subst hk0
              clear h39 hn hne hb hd hK hk
              go_step3
              go_wp2_with fail
              refine c1.mono ?_
              rintro e w2 ⟨rfl, hw2⟩
              rw [hw2]
              clear hw2
              go_wp2_with fail
              refine c2.mono ?_
              rintro e w2 ⟨rfl, hw2⟩
              rw [hw2]
              clear hw2
              go_wp2_with fail
              refine c3.mono ?_
              rintro e w3 ⟨rfl, hb3⟩
              have HO3 := Lib.hid (HO.out.keep hb3)
              clear hb3 c1 c2 c3
              go_wp2_with (at_builtin; refine app_text (v := .slice none 0 0) (out := out) rfl _ _ rfl w rfl HO3.out (s.extract 0 K) rfl (by omega) ?_)
              intro v' w4 hown
              have HO4 : Hid (Own w v' (out ++ (L s).take K) w4) := Lib.hid (by rw [← L_to]; exact hown)
              clear hown
              go_wp2_with fail
              go_step3
              show JS s w 1 _ _
              unfold JS
              (repeat apply Exists.intro)
              refine ⟨?rel, rfl⟩
              case rel =>
                refine ⟨s.extract K s.size, out ++ (L s).take K, rfl, ?len, HO4.out, .inl ⟨rfl, ?eqn⟩⟩
                case len => rw [List.length_append, List.length_take, L_len]; omega
                case eqn => rw [← HR.out, HS.out, map_more2, L_from]
            · have HN : Hid (shP (L s) = none) := Lib.hid (by rw [HP.out, ← HR.out, sh0_x hne (by rw [hn]; exact h39) hb hd (by rw [hK, hk]; exact hk0)]; rfl)
              have hq : (((k : Nat) : Int) == 0) = false := beq_eq_false_iff_ne.2 (by omega)
              clear h39 hn hne hb hd hK hk
              go_step3
              go_wp2_with fail
              refine c1.mono ?_
              rintro e w2 ⟨rfl, hw2⟩
              rw [hw2]
              clear hw2
              go_wp2_with fail
              refine c2.mono ?_
              rintro e w2 ⟨rfl, hw2⟩
              rw [hw2]
              clear hw2
              go_wp2_with fail
              refine c3.mono ?_
              rintro e w3 ⟨rfl, hb3⟩
              have HO3 := Lib.hid (HO.out.keep hb3)
              clear hb3 c1 c2 c3
              go_wp2_with fail
              refine hops_ret ?_
              go_ret2
              exact ⟨ret_none HN.out, HO3.out.below⟩
end Go.Proofs.YtlilnljneakngaaDoor
