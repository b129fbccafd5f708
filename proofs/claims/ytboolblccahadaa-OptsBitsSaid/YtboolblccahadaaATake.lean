/-
  What the reader does with an argument of letters, or of a name. Conditions: at most 100000 specs, arguments and options.
-/
import Derived.Test.YtboolblccahadaaAStep
import Derived.Test.YtboolblccahadaaASpec
set_option linter.unusedVariables false
set_option linter.unusedSimpArgs false
namespace Go.Proofs.Ytboolblccahadaa.A
open Go.Proofs.Ytboolblccahadaa.B
open Go.RowKit

/-- What an option with a value makes of what is left. -/
def valM (s : Sp) (v : ByteArray) (has : Bool) (O : List Op) (P L : List ByteArray) : Option (List Op × List ByteArray × List ByteArray) :=
  if has then some (O ++ [⟨s.letter, v⟩], P, L) else match L with
    | [] => none
    | x :: r => some (O ++ [⟨s.letter, x⟩], P, r)
section
variable {W0 : World} {b : Nat} {sa : Option Addr} {sn sc : Nat} {la : Option Addr} {lc : Nat} {L : List ByteArray} {O : List Op} {P : List ByteArray} {ov pv : Value} {w : World}
set_option maxRecDepth 100000 in
set_option maxHeartbeats 4000000 in
theorem valued_any (s : Sp) (v : ByteArray) (has : Bool) (h : Rdr W0 b sa sn sc la lc L O P ov pv w) (hO : O.length ≤ 100000) (hL : L.length ≤ 100000) :
    Calls Try.prog 30 #[.pointer (some ⟨b, 0, none⟩), spV s, .string v, .bool has] w fun e w' => Took W0 b sa sn sc (valM s v has O P L) e w' := by
  have HK := Lib.hid (h.keep ((Below.refl _ _).alloc (Nat.le_refl _) (.cells #[.int .u8 s.letter, .string s.long, .bool s.value] 42)))
  have HX := Lib.hid (heap_alloc_new w (.cells #[.int .u8 s.letter, .string s.long, .bool s.value] 42))
  have HLt := Lib.hid (show w.heap.size ≠ b from fun e => by have := h.lt; omega)
  clear h
  have hV := Lib.hid (show spV s = .agg #[.int .u8 s.letter, .string s.long, .bool s.value] from rfl)
  rw [hV.out]
  go_enter Try.func30, Try.ntmps30
  go_upto_region 1 with fail
  generalize w.alloc (.cells #[.int .u8 s.letter, .string s.long, .bool s.value] 42) = w1 at HK HX ⊢
  generalize w.heap.size = B5 at HX HLt ⊢
  have r0 : w1.cell? ⟨B5, 0, none⟩ = some (.int .u8 s.letter) := by rw [cell_of_row _ _ _ _ _ _ HX.out]; rfl
  have r1 : w1.cell? ⟨B5, 1, none⟩ = some (.string s.long) := by rw [cell_of_row _ _ _ _ _ _ HX.out]; rfl
  have r2 : w1.cell? ⟨B5, 2, none⟩ = some (.bool s.value) := by rw [cell_of_row _ _ _ _ _ _ HX.out]; rfl
  cases has with
  | true =>
    have HS := Lib.hid (show valM s v true O P L = some (O ++ [⟨s.letter, v⟩], P, L) from rfl)
    have HAd := Lib.hid (add_any s v HK.out hO)
    rw [hV.out] at HAd
    go_wp2_with (refine HAd.out.mono ?_; rintro e w2 ⟨rfl, ov', h2⟩; have H2 := Lib.hid h2; clear h2)
    go_ret
    rw [HS.out]
    exact Took.yes H2.out
  | false =>
    cases L with
    | nil =>
      have HS := Lib.hid (show valM s v false O P [] = none from rfl)
      have c1 : w1.cell? ⟨b, 1, none⟩ = some (.slice la 0 lc) := HK.out.cell (j := 1) rfl
      go_wp2_with fail
      go_ret
      rw [HS.out]
      exact Took.no HK.out.low
    | cons x r =>
      have HS := Lib.hid (show valM s v false O P (x :: r) = some (O ++ [⟨s.letter, x⟩], P, r) from rfl)
      have c1 : w1.cell? ⟨b, 1, none⟩ = some (.slice la (r.length + 1) lc) := HK.out.cell (j := 1) rfl
      have e1 : (((r.length + 1 : Nat) : Int) == 0) = false := beq_eq_false_iff_ne.2 (by omega)
      have HNx := Lib.hid (next_any HK.out)
      have HAd := Lib.hid (fun (w2 : World) (la' : Option Addr) (lc' : Nat) (h2 : Rdr W0 b sa sn sc la' lc' r O P ov pv w2) => add_any s x h2 hO)
      rw [hV.out] at HAd
      go_wp2_with (go_at_call 15; refine HNx.out.mono ?_; rintro e w2 ⟨rfl, ⟨la', lc', h2⟩, hk⟩; clear r0 r1 r2 c1; have r0 : w2.cell? ⟨B5, 0, none⟩ = some (.int .u8 s.letter) := (by rw [cell_of_row _ _ _ _ _ _ ((hk B5 HLt.out).trans HX.out)]; rfl); have r1 : w2.cell? ⟨B5, 1, none⟩ = some (.string s.long) := (by rw [cell_of_row _ _ _ _ _ _ ((hk B5 HLt.out).trans HX.out)]; rfl); have r2 : w2.cell? ⟨B5, 2, none⟩ = some (.bool s.value) := (by rw [cell_of_row _ _ _ _ _ _ ((hk B5 HLt.out).trans HX.out)]; rfl); have H2 := Lib.hid h2; clear hk h2)
      refine (HAd.out _ _ _ H2.out).mono ?_
      rintro e w3 ⟨rfl, ov', h3⟩
      have H3 := Lib.hid h3
      clear h3
      go_wp2_with fail
      go_ret
      rw [HS.out]
      exact Took.yes H3.out

def LtsRel (W0 : World) (b : Nat) (sa : Option Addr) (sn sc : Nat) (specs : List Sp) (l : List UInt8) (L : List ByteArray) (O : List Op) (P : List ByteArray) (v : Value) (wr : World) : Prop :=
  ∃ (i : Nat) (O1 : List Op), 1 ≤ i ∧ i ≤ l.length + 1 ∧ O1.length + 1 = i ∧ v = .int .i64 (i : Int) ∧ Hid (lettersM specs l = (lettersM specs (l.drop (i - 1))).mores O1) ∧ Hid (∃ la lc ov pv, Rdr W0 b sa sn sc la lc L (O ++ O1) P ov pv wr)
set_option maxRecDepth 100000 in
set_option maxHeartbeats 8000000 in
theorem letters_any (specs : List Sp) (a : ByteArray) (l : List UInt8) (hl : listB a = 45 :: l) (h : Rdr W0 b sa specs.length sc la lc L O P ov pv w) (hs : SpsL W0 sa specs) (hn : specs.length ≤ 100000) (ha : a.size ≤ 1000) (hO : O.length ≤ 50000) (hL : L.length ≤ 100000) :
    Calls Try.prog 24 #[.pointer (some ⟨b, 0, none⟩), .string a] w fun e w' => Took W0 b sa specs.length sc (stepM (ltK (lettersM specs l)) a O P L) e w' := by
  have hsz : a.size = l.length + 1 := by rw [← listB_len, hl]; rfl
  have HLi := Lib.hid hl
  have HSp := Lib.hid hs
  have H0 := Lib.hid h
  have HSz := Lib.hid hsz
  clear h hs hl hsz
  go_enter Try.func24, Try.ntmps24
  go_wp2_with fail
  go_loopw [5] (LtsRel W0 b sa specs.length sc specs l L O P) (fun v _ => l.length + 1 - (intOf v).toNat)
  case atStart => exact ⟨1, [], Nat.le_refl _, by omega, rfl, rfl, Lib.hid (by rw [mores_nil]; rfl), Lib.hid ⟨_, _, _, _, by rw [List.append_nil]; exact H0.out⟩⟩
  case round =>
    obtain ⟨i, O1, hi1, hi2, hO1, rfl, HM, HR⟩ := hrel
    obtain ⟨la1, lc1, ov1, pv1, hr⟩ := HR.out
    have HRr := Lib.hid hr
    clear hr HR
    by_cases hlt : i < a.size
    · have e1 : decide ((i : Int) < (a.size : Int)) = true := decide_eq_true (by omega)
      have hil : i - 1 < l.length := by have := HSz.out; omega
      obtain ⟨c, hc⟩ : ∃ c, a[i]'hlt = c := ⟨_, rfl⟩
      have hcl : l.drop (i - 1) = c :: l.drop i := by
        rw [drop_at hil, show i - 1 + 1 = i by omega]
        have h1 : (listB a)[i]? = some (a[i]'hlt) := list_at hlt
        rw [HLi.out, hc, show i = (i - 1) + 1 by omega, List.getElem?_cons_succ, List.getElem?_eq_getElem hil] at h1
        rw [Option.some.inj h1]
      rw [hcl] at HM
      have HLe := Lib.hid (fun (W : World) (hb : Below wr.heap.size wr W) => letter_any specs (c.toNat : Int) (HRr.out.keep hb) HSp.out hn)
      have HV := Lib.hid (fun (v : ByteArray) (has : Bool) (s : Sp) (W : World) (hb : Below wr.heap.size wr W) => valued_any s v has (HRr.out.keep hb) (by rw [List.length_append]; omega) hL)
      have HAd := Lib.hid (fun (s : Sp) (W : World) (hb : Below wr.heap.size wr W) => add_any s ⟨#[]⟩ (HRr.out.keep hb) (by rw [List.length_append]; omega))
      have HLw := Lib.hid HRr.out.low
      clear hcl
      rcases hk : letterM specs c with _ | k
      · have HS := Lib.hid (show stepM (ltK (lettersM specs l)) a O P L = none from by rw [HM.out, letters_bad hk]; rfl)
        have hk2 : (findK (fun s => decide (s.letter = (c.toNat : Int))) specs 0).map (spAt specs) = none := by
          have : findK (fun s => decide (s.letter = (c.toNat : Int))) specs 0 = none := hk
          rw [this]; rfl
        rw [hk2] at HLe
        clear hk hk2
        unfold spR at HLe
        simp only [Option.getD_none, Option.isSome_none] at HLe
        unfold spV noSp at HLe
        go_wp2_with (go_at_call 32; refine (HLe.out _ (Below.refl _ _)).mono ?_; rintro e w2 ⟨rfl, hb2⟩; have HB2 := Lib.hid hb2; clear hb2)
        go_ret
        rw [HS.out]
        exact Took.no (HLw.out.trans (((HB2.out.alloc HB2.out.size _).mono HLw.out.size)))
      · obtain ⟨s, hsk⟩ : ∃ s, spAt specs k = s := ⟨_, rfl⟩
        have hsl : s.letter = (c.toNat : Int) := by rw [← hsk]; exact letter_is hk
        have hk2 : (findK (fun s => decide (s.letter = (c.toNat : Int))) specs 0).map (spAt specs) = some s := by
          have : findK (fun s => decide (s.letter = (c.toNat : Int))) specs 0 = some k := hk
          rw [this, Option.map_some, hsk]
        rw [hk2] at HLe
        unfold spR at HLe
        simp only [Option.getD_some, Option.isSome_some] at HLe
        have HSl := Lib.hid hsl
        have HKk := Lib.hid hk
        have HSk := Lib.hid hsk
        clear hk2 hsl hk hsk
        have hV := Lib.hid (show spV s = .agg #[.int .u8 s.letter, .string s.long, .bool s.value] from rfl)
        rw [hV.out] at HLe
        rcases hv : s.value with _ | _
        · rw [hv] at HLe
          have HMo := Lib.hid (show lettersM specs l = (lettersM specs (l.drop i)).mores (O1 ++ [⟨s.letter, ⟨#[]⟩⟩]) from by
            rw [HM.out, letters_more HKk.out (by rw [HSk.out, hv]), mores_more, HSl.out]; rfl)
          have HAs := Lib.hid (HAd.out s)
          rw [hV.out, hv] at HAs
          clear hv
          go_wp2_with (go_at_call 32; refine (HLe.out _ (Below.refl _ _)).mono ?_; rintro e w2 ⟨rfl, hb2⟩; have HB2 := Lib.hid hb2; clear hb2)
          refine (HAs.out _ (HB2.out.alloc HB2.out.size _)).mono ?_
          rintro e w3 ⟨rfl, ov3, h3⟩
          rw [List.append_assoc] at h3
          have H3 := Lib.hid h3
          clear h3
          go_wp2_with fail
          go_roundw
          case rel => exact ⟨i + 1, O1 ++ [⟨s.letter, ⟨#[]⟩⟩], by omega, by have := HSz.out; omega, by rw [List.length_append]; show O1.length + 1 + 1 = _; omega, by simp, Lib.hid (by rw [HMo.out, Nat.add_sub_cancel]), Lib.hid ⟨_, _, _, _, H3.out⟩⟩
          case measure => simp [intOf]; omega
        · rw [hv] at HLe
          have hex : a.extract (i + 1) a.size = byL (l.drop i) := by
            rw [ext_byL HLi.out]; rfl
          have HE := Lib.hid hex
          clear hex
          have HVs := Lib.hid (fun v has => HV.out v has s)
          rw [hV.out, hv] at HVs
          have HKv := Lib.hid (show (spAt specs k).value = true from by rw [HSk.out, hv])
          clear hv
          go_upto_region 9 with (go_at_call 32; refine (HLe.out _ (Below.refl _ _)).mono ?_; rintro e w2 ⟨rfl, hb2⟩; have HB2 := Lib.hid hb2; clear hb2)
          rw [HE.out]
          have HBa := Lib.hid (HB2.out.alloc HB2.out.size (.cells #[.int .u8 s.letter, .string s.long, .bool true] 42))
          by_cases hr : l.drop i = []
          · have HS := Lib.hid (show stepM (ltK (lettersM specs l)) a O P L = valM s (byL (l.drop i)) false (O ++ O1) P L from by
              rw [HM.out, hr, letters_next HKk.out HKv.out]
              unfold valM
              rw [if_neg (by simp)]
              cases L with
              | nil => rfl
              | cons x r => simp [Lt.mores, ltK, stepM, HSl.out])
            obtain ⟨z1, z2, z3, _⟩ := txt_emp (s := byL (l.drop i)) (by rw [hr]; rfl)
            clear hr
            generalize byL (l.drop i) = R at *
            go_wp2_with fail
            refine (HVs.out R false _ HBa.out).mono ?_
            intro e w3 h3
            rw [← HS.out] at h3
            obtain ⟨rfl, h3⟩ := h3.is
            have H3 := Lib.hid h3
            clear h3
            go_wp2_with fail
            go_ret
            exact H3.out
          · have HS := Lib.hid (show stepM (ltK (lettersM specs l)) a O P L = valM s (byL (l.drop i)) true (O ++ O1) P L from by
              rw [HM.out, letters_last HKk.out HKv.out hr]
              unfold valM
              rw [if_pos rfl]
              simp [Lt.mores, ltK, stepM, HSl.out])
            obtain ⟨z1, z2, z3, z4, _⟩ := txt_non (s := byL (l.drop i)) (by rw [← listB_len, listB_byL]; exact List.length_pos_iff.2 hr)
            clear hr
            generalize byL (l.drop i) = R at *
            go_wp2_with fail
            refine (HVs.out R true _ HBa.out).mono ?_
            intro e w3 h3
            rw [← HS.out] at h3
            obtain ⟨rfl, h3⟩ := h3.is
            have H3 := Lib.hid h3
            clear h3
            go_wp2_with fail
            go_ret
            exact H3.out
    · have e1 : decide ((i : Int) < (a.size : Int)) = false := decide_eq_false (by omega)
      have HS := Lib.hid (show stepM (ltK (lettersM specs l)) a O P L = some (O ++ O1, P, L) from by
        rw [HM.out, List.drop_eq_nil_of_le (by have := HSz.out; omega), letters_nil]
        simp [Lt.mores, ltK, stepM])
      go_wp2_with fail
      go_ret
      rw [HS.out]
      exact Took.yes HRr.out

set_option maxRecDepth 100000 in
set_option maxHeartbeats 8000000 in
theorem long_any (specs : List Sp) (a : ByteArray) (r : List UInt8) (hl : listB a = 45 :: 45 :: r) (h : Rdr W0 b sa specs.length sc la lc L O P ov pv w) (hs : SpsL W0 sa specs) (hm : MaxT W0) (hn : specs.length ≤ 100000) (ha : a.size ≤ 1000) (hO : O.length ≤ 50000) (hL : L.length ≤ 100000) :
    Calls Try.prog 23 #[.pointer (some ⟨b, 0, none⟩), .string a] w fun e w' => Took W0 b sa specs.length sc (stepM (longM specs r) a O P L) e w' := by
  have hsz : a.size = r.length + 2 := by rw [← listB_len, hl]; rfl
  obtain ⟨m, hm2⟩ := hm.keep h.low
  have hex : a.extract 2 a.size = byL r := by rw [ext_byL hl]; rfl
  have hrs : (byL r).size = r.length := by rw [← listB_len, listB_byL]
  have HE := Lib.hid hex
  have HLw := Lib.hid h.low
  have HLi := Lib.hid hl
  have HN := Lib.hid (fun (n : ByteArray) (W : World) (hb : Below w.heap.size w W) => name_any specs n (h.keep hb) hs hn)
  have HV := Lib.hid (fun (v : ByteArray) (has : Bool) (s : Sp) (W : World) (hb : Below w.heap.size w W) => valued_any s v has (h.keep hb) (by omega) hL)
  have HAd := Lib.hid (fun (s : Sp) (W : World) (hb : Below w.heap.size w W) => add_any s ⟨#[]⟩ (h.keep hb) (by omega))
  have HC := Lib.hid (Try.strings_Cut (byL r) ⟨#[61]⟩ m w (by omega) hm2)
  have hcr : Lib.cut (byL r).data.toList (⟨#[61]⟩ : ByteArray).data.toList = Lib.cut r [61] := rfl
  rw [hcr] at HC
  have h2 : (2 : Int) ≤ (a.size : Int) := by omega
  clear h hs hl hm hm2 hex hsz hrs hcr
  -- the name, the value, whether there is one
  obtain ⟨nm, vl, has, hcut, hnm, hvl⟩ : ∃ nm vl has, Lib.cut r [61] = (nm, vl, has) ∧ nm = nameL r ∧ ((has = true ∧ eqAt r < r.length ∧ vl = r.drop (eqAt r + 1)) ∨ (has = false ∧ eqAt r = r.length)) := by
    by_cases q : eqAt r < r.length
    · exact ⟨_, _, _, cut_yes q, rfl, .inl ⟨rfl, q, rfl⟩⟩
    · have q2 : eqAt r = r.length := by have := eqAt_le r; omega
      exact ⟨_, _, _, cut_no q2, (name_all q2).symm, .inr ⟨rfl, q2⟩⟩
  rw [hcut] at HC
  dsimp only at HC
  have HNm := Lib.hid hnm
  have HVl := Lib.hid hvl
  clear hcut hnm hvl
  have HNn := Lib.hid (fun W hb => by
    have := HN.out (byL nm) W hb
    rw [show meantM specs (listB (byL nm)) = meantM specs (nameL r) from by rw [listB_byL, HNm.out]] at this
    exact this)
  rw [show (⟨nm.toArray⟩ : ByteArray) = byL nm from rfl, show (⟨vl.toArray⟩ : ByteArray) = byL vl from rfl] at HC
  clear HN HNm
  generalize byL nm = NM at HC HNn
  go_enter Try.func23, Try.ntmps23
  rcases hk : meantM specs (nameL r) with _ | k
  · have HS := Lib.hid (show stepM (longM specs r) a O P L = none from by rw [long_bad hk]; rfl)
    rw [hk] at HNn
    unfold spR at HNn
    simp only [Option.map_none, Option.getD_none, Option.isSome_none] at HNn
    unfold spV noSp at HNn
    clear hk
    go_wp2_with (first
      | (go_at_call 28; rw [HE.out]; refine HC.out.mono ?_; rintro e w2 ⟨rfl, md, hw2⟩; have HB2 := Lib.hid (show Below w.heap.size w w2 from by rw [hw2]; exact below_drewNb (Below.refl _ _)); clear hw2)
      | (go_at_call 29; refine (HNn.out _ HB2.out).mono ?_; rintro e w3 ⟨rfl, hb3⟩; have HB3 := Lib.hid (below_two HB2.out hb3); clear hb3))
    go_ret
    rw [HS.out]
    exact Took.no (HLw.out.trans ((HB3.out.alloc HB3.out.size _).mono HLw.out.size))
  · obtain ⟨s, hsk⟩ : ∃ s, spAt specs k = s := ⟨_, rfl⟩
    rw [hk] at HNn
    unfold spR at HNn
    simp only [Option.map_some, hsk, Option.getD_some, Option.isSome_some] at HNn
    have hV := Lib.hid (show spV s = .agg #[.int .u8 s.letter, .string s.long, .bool s.value] from rfl)
    have HKk := Lib.hid hk
    have HSk := Lib.hid hsk
    clear hk hsk
    rcases hv : s.value with _ | _
    · have HAs := Lib.hid (HAd.out s)
      rw [hV.out, hv] at HNn HAs
      have HS := Lib.hid (show stepM (longM specs r) a O P L = if has then none else some (O ++ [⟨s.letter, ⟨#[]⟩⟩], P, L) from by
        rcases HVl.out with ⟨rfl, q, rfl⟩ | ⟨rfl, q⟩
        · rw [long_much HKk.out q (by rw [HSk.out, hv])]
          rfl
        · rw [long_plain HKk.out q (by rw [HSk.out, hv]), HSk.out]
          rfl)
      clear hv
      go_wp2_with (first
        | (go_at_call 28; rw [HE.out]; refine HC.out.mono ?_; rintro e w2 ⟨rfl, md, hw2⟩; have HB2 := Lib.hid (show Below w.heap.size w w2 from by rw [hw2]; exact below_drewNb (Below.refl _ _)); clear hw2)
        | (go_at_call 29; refine (HNn.out _ HB2.out).mono ?_; rintro e w3 ⟨rfl, hb3⟩; have HB3 := Lib.hid (below_two HB2.out hb3); clear hb3))
      refine (HAs.out _ (HB3.out.alloc HB3.out.size _)).mono ?_
      rintro e w4 ⟨rfl, ov4, h4⟩
      have H4 := Lib.hid h4
      clear h4
      cases has with
      | true =>
        go_wp2_with fail
        go_ret
        rw [HS.out, if_pos (by simp)]
        exact Took.no H4.out.low
      | false =>
        go_wp2_with fail
        go_ret
        rw [HS.out, if_neg (by simp)]
        exact Took.yes H4.out
    · have HVs := Lib.hid (HV.out (byL vl) has s)
      rw [hV.out, hv] at HNn HVs
      have HS := Lib.hid (show stepM (longM specs r) a O P L = valM s (byL vl) has O P L from by
        rcases HVl.out with ⟨rfl, q, rfl⟩ | ⟨rfl, q⟩
        · rw [long_given HKk.out q (by rw [HSk.out, hv]), HSk.out]
          rfl
        · rw [long_next HKk.out q (by rw [HSk.out, hv]), HSk.out]
          cases L <;> rfl)
      clear hv
      go_wp2_with (first
        | (go_at_call 28; rw [HE.out]; refine HC.out.mono ?_; rintro e w2 ⟨rfl, md, hw2⟩; have HB2 := Lib.hid (show Below w.heap.size w w2 from by rw [hw2]; exact below_drewNb (Below.refl _ _)); clear hw2)
        | (go_at_call 29; refine (HNn.out _ HB2.out).mono ?_; rintro e w3 ⟨rfl, hb3⟩; have HB3 := Lib.hid (below_two HB2.out hb3); clear hb3))
      refine (HVs.out _ (HB3.out.alloc HB3.out.size _)).mono ?_
      intro e w4 h4
      rw [← HS.out] at h4
      obtain ⟨rfl, h4⟩ := h4.is
      have H4 := Lib.hid h4
      clear h4
      go_wp2_with fail
      go_ret
      exact H4.out
end
end Go.Proofs.Ytboolblccahadaa.A
