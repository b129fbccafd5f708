/-
  What quote.backslashed returns. Conditions: the text has at most 1000000 bytes; the library's tables lie.
-/
import Derived.Test.YtlilnljneakngaaDoorQBuild
set_option linter.unusedVariables false
namespace Go.Proofs.YtlilnljneakngaaDoor
open Go.RowKit

theorem bsC_len (sign : UInt8) (c : Bytes) : (bsC sign c).length ≤ 4 * c.length := by
  cases c with
  | nil => simp [bsC]
  | cons b r =>
    have := esc_len b
    simp only [bsC]
    repeat' split
    all_goals simp only [List.length_cons, List.length_nil] at *
    all_goals omega
theorem bsP_nil (sign : UInt8) : bsP sign [] = [] := by unfold bsP; rw [chunks_nil]; rfl
theorem bsP_step (sign : UInt8) {l : Bytes} (h : l ≠ []) : bsP sign l = bsC sign (l.take (sz l)) ++ bsP sign (l.drop (sz l)) := by
  unfold bsP
  rw [chunks_step l h, List.flatMap_cons]
theorem bsP_len (sign : UInt8) (l : Bytes) : (bsP sign l).length ≤ 4 * l.length := by
  refine by_drop (P := fun l => (bsP sign l).length ≤ 4 * l.length) ?_ ?_ l
  · rw [bsP_nil]; simp
  · intro l h ih
    have h1 := bsC_len sign (l.take (sz l))
    have h2 := sz_le l h
    rw [bsP_step sign h, List.length_append]
    rw [List.length_drop] at ih
    rw [List.length_take] at h1
    omega
theorem take_cons {l : Bytes} {K : Nat} (h : l ≠ []) (hK : 1 ≤ K) : ∃ r, l.take K = l.head h :: r := by
  cases l with
  | nil => exact absurd rfl h
  | cons b r =>
    obtain ⟨j, rfl⟩ : ∃ j, K = j + 1 := ⟨K - 1, by omega⟩
    exact ⟨r.take j, rfl⟩
theorem head_get (s : ByteArray) (h : L s ≠ []) (h0 : 0 < s.size) : s[0]'h0 = (L s).head h := by
  rw [get_at, List.head_eq_getElem]
theorem tail_size (t : ByteArray) (K : Nat) : (t.extract K t.size).size = t.size - K := by
  rw [← L_len, L_from, List.length_drop, L_len]

def SlashRel (s : ByteArray) (sign : UInt8) (w : World) (v : Value) (w' : World) : Prop :=
  ∃ (t : ByteArray) (out : Bytes), v = .string t ∧ t.size ≤ s.size ∧ out ++ bsP sign (L t) = bsP sign (L s) ∧ out.length ≤ 4 * s.size ∧ Bld w w.heap.size out w'

set_option maxHeartbeats 2000000 in
set_option maxRecDepth 100000 in
theorem backslashed_any (s : ByteArray) (sign : UInt8) (w : World) (hT : Tab w) (hs : s.size ≤ 1000000) :
    Calls Tryd.prog 20 #[.string s, .int .u8 (sign.toNat : Int)] w fun e w' => e = .returned (.string (T (bsP sign (L s)))) ∧ Below w.heap.size w w' := by
  have HM := Lib.hid (Bld.made w)
  have hsz := bsP_len sign (L s)
  rw [L_len] at hsz
  obtain ⟨sg, hsg⟩ : ∃ sg, sign.toNat = sg := ⟨_, rfl⟩
  rw [hsg]
  go_enter Tryd.func20, Tryd.ntmps20
  go_wp2
  go_loopw [0] (SlashRel s sign w) (fun v _ => (textOf v).size)
  case atStart => exact ⟨s, [], rfl, Nat.le_refl _, rfl, by simp, HM.out⟩
  case round =>
    obtain ⟨t, out, rfl, hts, hr, hol, hb⟩ := hrel
    have HB := Lib.hid hb
    have HR := Lib.hid hr
    clear hb hr
    by_cases hne : L t = []
    · have he := empty_true hne
      go_wp2_with fail
      refine HB.out.string.mono ?_
      rintro e w2 ⟨rfl, hb2⟩
      go_wp2_with fail
      go_ret
      refine ⟨ret_str ?_, hb2⟩
      rw [← HR.out, hne, bsP_nil, List.append_nil]
    · have he := empty_false hne
      have h0 : 0 < t.size := L_ne.1 hne
      obtain ⟨K, hK⟩ : ∃ K, sz (L t) = K := ⟨_, rfl⟩
      obtain ⟨k, hk⟩ : ∃ k, kc ((L t).take K) = k := ⟨_, rfl⟩
      have cF := first_of t K k wr (HB.out.tab hT) hne hK hk
      have hbd : 1 ≤ K ∧ K ≤ 4 := by rw [← hK]; exact sz_bd _
      have hle : K ≤ t.size := by
        have h1 := sz_le _ hne
        rw [hK, L_len] at h1
        omega
      have HP : Hid (bsP sign (L t) = bsC sign ((L t).take K) ++ bsP sign ((L t).drop K)) := Lib.hid (by rw [bsP_step sign hne, hK])
      obtain ⟨b, hbb⟩ : ∃ b, t[0]'h0 = b := ⟨_, rfl⟩
      obtain ⟨r, hr⟩ := take_cons (K := K) hne hbd.1
      rw [← head_get t hne h0, hbb] at hr
      have HC : Hid ((L t).take K = b :: r) := Lib.hid hr
      have HK : Hid (hardC (b :: r) = decide (k = 1)) := Lib.hid (by
        rw [← hr]
        unfold hardC
        rw [hk]
        rfl)
      have HL : Hid (∀ o : Bytes, o = out ++ bsC sign ((L t).take K) → o ++ bsP sign ((L t).drop K) = bsP sign (L s) ∧ o.length ≤ 4 * s.size) := Lib.hid (fun o ho => by
        have e : o ++ bsP sign ((L t).drop K) = bsP sign (L s) := by rw [ho, ← HR.out, HP.out, List.append_assoc]
        refine ⟨e, ?_⟩
        have := congrArg List.length e
        rw [List.length_append] at this
        omega)
      obtain ⟨bn, hbn⟩ : ∃ bn, b.toNat = bn := ⟨_, rfl⟩
      have hb92 : Hid ((b = 92) ↔ bn = 92) := Lib.hid (by rw [← UInt8.toNat_inj, hbn]; rfl)
      have hbsg : Hid ((b = sign) ↔ bn = sg) := Lib.hid (by rw [← UInt8.toNat_inj, hbn, hsg])
      have hz2 := tail_size t K
      clear hK hk hr hne
      go_wp2_with fail
      refine cF.mono ?_
      rintro e w2 ⟨rfl, hb2⟩
      have HB2 := Lib.hid (HB.out.keep hb2)
      clear hb2 cF
      by_cases hq : k = 1
      · subst hq
        go_wp2_with fail
        have cE := writeEscape_any HB2.out (by omega) b
        rw [hbn] at cE
        refine cE.mono ?_
        rintro e w3 ⟨rfl, h3⟩
        have HB3 := Lib.hid h3
        clear h3
        go_wp2_with fail
        go_roundw
        case rel =>
          obtain ⟨e1, e2⟩ := HL.out (out ++ esc b) (by rw [HC.out, bsC, HK.out]; rfl)
          refine ⟨t.extract K t.size, out ++ esc b, rfl, by omega, ?_, e2, HB3.out⟩
          rw [L_from]; exact e1
        case measure =>
          show (t.extract K t.size).size < t.size
          omega
      · have hq2 : (((k : Nat) : Int) == 1) = false := beq_eq_false_iff_ne.2 (by omega)
        by_cases hs2 : bn = 92 ∨ bn = sg
        · have hbs : Hid (bsC sign ((L t).take K) = [92] ++ [b]) := Lib.hid (by
            rw [HC.out, bsC, HK.out, decide_eq_false hq, if_neg (by decide), if_pos (by rw [hb92.out, hbsg.out]; exact hs2)]
            rfl)
          have key : ∀ (w3 : World) (n : Int), n = (bn : Int) → Bld w w.heap.size (out ++ [92]) w3 → Calls Tryd.prog 35 #[.pointer (some ⟨w.heap.size, 0, none⟩), .int .u8 n] w3 fun e w' => e = .returned .nilIface ∧ Bld w w.heap.size (out ++ [92] ++ [b]) w' :=
            fun w3 n hn h3 => h3.writeByte (by simp; omega) b n (by rw [hbn]; exact hn)
          by_cases h92 : bn = 92
          · have hx : ((bn : Int) == 92) = true := by rw [h92]; rfl
            clear hs2 h92 hq
            go_wp2_with fail
            refine (HB2.out.writeByte (by omega) 92 92 rfl).mono ?_
            rintro e w3 ⟨rfl, h3⟩
            go_wp2_with fail
            refine (key w3 _ rfl h3).mono ?_
            rintro e w4 ⟨rfl, h4⟩
            have HB4 := Lib.hid h4
            clear h3 h4
            go_wp2_with fail
            go_roundw
            case rel =>
              obtain ⟨e1, e2⟩ := HL.out (out ++ [92] ++ [b]) (by rw [hbs.out, List.append_assoc])
              refine ⟨t.extract K t.size, out ++ [92] ++ [b], rfl, by omega, ?_, e2, HB4.out⟩
              rw [L_from]; exact e1
            case measure =>
              show (t.extract K t.size).size < t.size
              omega
          · have hx : ((bn : Int) == 92) = false := beq_eq_false_iff_ne.2 (by omega)
            have hx2 : ((bn : Int) == (sg : Int)) = true := beq_iff_eq.2 (by omega)
            clear hs2 h92 hq
            go_wp2_with fail
            refine (HB2.out.writeByte (by omega) 92 92 rfl).mono ?_
            rintro e w3 ⟨rfl, h3⟩
            go_wp2_with fail
            refine (key w3 _ rfl h3).mono ?_
            rintro e w4 ⟨rfl, h4⟩
            have HB4 := Lib.hid h4
            clear h3 h4
            go_wp2_with fail
            go_roundw
            case rel =>
              obtain ⟨e1, e2⟩ := HL.out (out ++ [92] ++ [b]) (by rw [hbs.out, List.append_assoc])
              refine ⟨t.extract K t.size, out ++ [92] ++ [b], rfl, by omega, ?_, e2, HB4.out⟩
              rw [L_from]; exact e1
            case measure =>
              show (t.extract K t.size).size < t.size
              omega
        · have hx : ((bn : Int) == 92) = false := beq_eq_false_iff_ne.2 (by omega)
          have hx2 : ((bn : Int) == (sg : Int)) = false := beq_eq_false_iff_ne.2 (by omega)
          have hbs : Hid (bsC sign ((L t).take K) = (L t).take K) := Lib.hid (by
            rw [HC.out, bsC, HK.out, decide_eq_false hq, if_neg (by decide), if_neg (by rw [hb92.out, hbsg.out]; exact hs2)])
          have hz : (t.extract 0 K).size ≤ 1000000000 := by rw [← L_len, L_to, List.length_take]; omega
          go_wp2_with fail
          refine (HB2.out.writeString (by omega) (t.extract 0 K) hz).mono ?_
          rintro e w3 ⟨⟨v3, rfl⟩, h3⟩
          have HB3 := Lib.hid h3
          clear h3
          go_wp2_with fail
          go_roundw
          case rel =>
            obtain ⟨e1, e2⟩ := HL.out (out ++ L (t.extract 0 K)) (by rw [hbs.out, L_to])
            refine ⟨t.extract K t.size, out ++ L (t.extract 0 K), rfl, by omega, ?_, e2, HB3.out⟩
            rw [L_from]; exact e1
          case measure =>
            show (t.extract K t.size).size < t.size
            omega
end Go.Proofs.YtlilnljneakngaaDoor
