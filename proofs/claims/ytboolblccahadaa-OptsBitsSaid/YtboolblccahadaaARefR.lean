/-
  What the reference's Read returns. Conditions: specs and arguments in memory, at most 1000 and 40 of them, arguments and names of at most 1000 bytes.
-/
import Derived.Test.YtboolblccahadaaARefN
import Derived.Test.YtboolblccahadaaARead
set_option linter.unusedVariables false
set_option linter.unusedSimpArgs false
namespace Go.Proofs.Ytboolblccahadaa.A
open Go.Proofs.Ytboolblccahadaa.B
open Go.RowKit

/-- What an argument may be. -/
theorem arg_cases (l : List UInt8) : l = [45, 45] ∨ (∃ r, r ≠ [] ∧ l = 45 :: 45 :: r) ∨ (∃ c r, c ≠ 45 ∧ l = 45 :: c :: r) ∨ (l ≠ [45, 45] ∧ (∀ specs, kindL specs l = .operand) ∧ (l.length < 2 ∨ ∃ b r, b ≠ 45 ∧ l = b :: r ∧ r ≠ [])) := by
  match l with
  | [] => exact .inr (.inr (.inr ⟨by simp, fun _ => rfl, .inl (by simp)⟩))
  | [b] => exact .inr (.inr (.inr ⟨by simp, fun _ => rfl, .inl (by simp)⟩))
  | b :: c :: r =>
    by_cases h1 : b = 45
    · subst h1
      by_cases h2 : c = 45
      · subst h2
        by_cases h3 : r = []
        · subst h3; exact .inl rfl
        · exact .inr (.inl ⟨r, h3, rfl⟩)
      · exact .inr (.inr (.inl ⟨c, r, h2, rfl⟩))
    · refine .inr (.inr (.inr ⟨fun z => h1 (by cases z; rfl), fun specs => ?_, .inr ⟨b, c :: r, h1, rfl, by simp⟩⟩))
      unfold kindL
      dsimp only
      rw [if_pos h1]
/-- What the reference's Read answers, by the model. -/
def RReadR (base : Nat) (r : Rd) (e : Ending) (w' : World) : Prop := match r with
  | .bad a => e = .returned (.tuple #[.slice none 0 0, .slice none 0 0, .string a, .bool false])
  | .ok l p => ∃ ov pv, e = .returned (.tuple #[ov, pv, .string ⟨#[]⟩, .bool true]) ∧ w'.ownsRow base 35 2 ov l.length (cellsC opC l) ∧ w'.ownsRow base 9 1 pv p.length (strs p)
theorem byte_at {s : ByteArray} {l : List UInt8} (h : listB s = l) {i : Nat} (hi : i < s.size) {b : UInt8} (hb : l[i]? = some b) : s[i]'hi = b := by
  have := list_at hi
  have e : s.data.toList = l := h
  rw [e, hb] at this
  exact (Option.some.inj this).symm
def LtR (specs : List Sp) (args : List ByteArray) (l : List UInt8) (i : Nat) (O : List Op) (P : List ByteArray) (w : World) (rv lv iv av : Value) (wr : World) : Prop :=
  ∃ m : Nat, av = .int .i64 (m : Int) ∧ 1 ≤ m ∧ m ≤ l.length + 2 ∧ Hid (wr.ownsRow w.heap.size 9 1 rv P.length (strs P)) ∧ Hid (Below w.heap.size w wr) ∧
    ((∃ O1 : List Op, m ≤ l.length + 1 ∧ O1.length + 1 = m ∧ iv = .int .i64 (i : Int) ∧ Hid (lettersM specs l = (lettersM specs (l.drop (m - 1))).mores O1) ∧ Hid (wr.ownsRow w.heap.size 35 2 lv (O ++ O1).length (cellsC opC (O ++ O1)))) ∨
     (∃ (j : Nat) (O' : List Op), l.length + 1 ≤ m ∧ iv = .int .i64 (j : Int) ∧ i ≤ j ∧ j < args.length ∧ O'.length ≤ (j + 1) * 1001 ∧ Hid (readM specs args = finL O' P (readM specs (args.drop (j + 1)))) ∧ Hid (wr.ownsRow w.heap.size 35 2 lv O'.length (cellsC opC O'))))
def EqRel (E : Nat) (w : World) (v : Value) (wr : World) : Prop := ∃ e : Nat, 2 ≤ e ∧ e ≤ E ∧ v = .int .i64 (e : Int) ∧ wr = w
theorem ext_name {x : ByteArray} {r : List UInt8} {e : Nat} (h : listB x = 45 :: 45 :: r) (he : eqAt r + 2 = e) : x.extract 2 e = byL (nameL r) := by
  apply listB_inj
  rw [listB_byL, name_take]
  unfold listB at h ⊢
  rw [Lib.extract_eq, h]
  show List.take (e - 2) r = _
  rw [show e - 2 = eqAt r by omega]
def RRel (specs : List Sp) (args : List ByteArray) (w : World) (lv rv v : Value) (wr : World) : Prop :=
  ∃ (i : Nat) (O : List Op) (P : List ByteArray), i ≤ args.length ∧ v = .int .i64 (i : Int) ∧ Hid (readM specs args = finL O P (readM specs (args.drop i))) ∧ O.length ≤ i * 1001 ∧ P.length ≤ i ∧ Hid (wr.ownsRow w.heap.size 35 2 lv O.length (cellsC opC O)) ∧ Hid (wr.ownsRow w.heap.size 9 1 rv P.length (strs P)) ∧ Hid (Below w.heap.size w wr)
set_option maxRecDepth 100000 in
set_option maxHeartbeats 16000000 in
theorem rread_any (specs : List Sp) (args : List ByteArray) (sa la : Option Addr) (sc lc : Nat) (w : World) (hs : SpsL w sa specs) (hl : TxtL w la args) (hc : args.length ≤ lc ∧ lc ≤ maxLen) (hn : specs.length ≤ 1000) (hk : args.length ≤ 40) (hz : ∀ x ∈ args, x.size ≤ 1000) (hy : ∀ s ∈ specs, s.long.size ≤ 1000) :
    Calls Try.prog 11 #[.slice sa specs.length sc, .slice la args.length lc] w fun e w' => RReadR w.heap.size (readM specs args) e w' ∧ Below w.heap.size w w' := by
  obtain ⟨it, hit, ht0, ht1, ht2⟩ := info_parts infoTxt
  obtain ⟨io, hio, ho0, ho1, ho2⟩ := info_parts infoOp
  have HSp := Lib.hid hs
  have HTx := Lib.hid hl
  have HZ := Lib.hid hz
  have HY := Lib.hid hy
  obtain ⟨hc1, hc2⟩ := hc
  have hc3 : lc ≤ 9223372036854775807 := by unfold maxLen at hc2; exact hc2
  clear hs hl hz hy
  go_enter Try.func11, Try.ntmps11
  go_wp2_with fail
  go_loopw [8, 9, 10] (RRel specs args w) (fun _ _ v _ => args.length - (intOf v).toNat)
  case atStart => exact ⟨0, [], [], Nat.zero_le _, rfl, Lib.hid (fin_nil _).symm, Nat.zero_le _, Nat.zero_le _, Lib.hid (World.ownsRow_nil _ _ _ _), Lib.hid (World.ownsRow_nil _ _ _ _), Lib.hid (Below.refl _ _)⟩
  case round =>
    obtain ⟨i, O, P, hi, rfl, HE, hO, hP, HOo, HOp, HB⟩ := hrel
    by_cases hlt : i < args.length
    · have e1 : decide ((i : Int) < (args.length : Int)) = true := decide_eq_true (by omega)
      obtain ⟨x, hxi⟩ : ∃ x, args[i]? = some x := ⟨_, List.getElem?_eq_getElem hlt⟩
      obtain ⟨g, o, rfl, hg, r0⟩ := txt_at (HTx.out.keep HB.out) hxi
      have hdr : args.drop i = x :: args.drop (i + 1) := by
        rw [List.drop_eq_getElem_cons hlt]
        rw [List.getElem?_eq_getElem hlt] at hxi
        rw [Option.some.inj hxi]
      have hsz := HZ.out x (List.mem_of_getElem? hxi)
      rw [hdr] at HE
      clear hxi hdr hg
      have hls := listB_len x
      rcases arg_cases (listB x) with q | ⟨r, hr, q⟩ | ⟨c, r, hcc, q⟩ | ⟨q, hkd, hsh⟩
      · -- the end of the options
-- BR A
        as_aux_lemma =>
        have e2 : (x.toList == [45, 45]) = true := by rw [cst_eq q]; rfl
        have HE2 := Lib.hid (HE.out.trans (read_on (specs := specs) (a := x) (O := O) (P := P) (L := args.drop (i + 1)) (O' := O) (P' := P ++ args.drop (i + 1)) (L' := []) (by unfold kindA; rw [q]; rfl)))
        rw [read_end] at HE2
        clear q
        have hw1 : IntKind.i64.wrap ((i : Int) + 1) = ((i + 1 : Nat) : Int) := by rw [IntWalk.i64_in _ (by omega)]; omega
        have hw2 : IntKind.i64.wrap ((i + 1 : Nat) : Int) = ((i + 1 : Nat) : Int) := IntWalk.i64_in _ (by omega)
        have h1 : i + 1 ≤ args.length := hlt
        have h2 : i + 1 ≤ lc := by omega
        have hdl : (args.drop (i + 1)).length = args.length - (i + 1) := List.length_drop
        obtain ⟨g', o', e', HD⟩ : ∃ g' o', some (⟨g, o, none⟩ : Addr) = some ⟨g', o', none⟩ ∧ TxtL wr (some ⟨g', o' + (i + 1), none⟩) (args.drop (i + 1)) := by
          rcases HTx.out.keep HB.out with z | ⟨g', o', z1, z2, z3⟩
          · rw [z] at hlt; cases hlt
          · refine ⟨g', o', z1, .inr ⟨g', o' + (i + 1), rfl, z2, fun j y hy => ?_⟩⟩
            rw [List.getElem?_drop] at hy
            have := z3 (i + 1 + j) y hy
            rw [Nat.mul_one] at this ⊢
            rw [Nat.add_assoc]
            exact this
        simp only [Option.some.injEq, Addr.mk.injEq] at e'
        obtain ⟨rfl, rfl, _⟩ := e'
        have HDd := Lib.hid HD
        have HDl := Lib.hid hdl
        clear HD hdl
        by_cases h3 : lc = i + 1
        · have HDd' := Lib.hid (show TxtL wr (some ⟨g, o, none⟩) (args.drop (i + 1)) from by
            rw [List.drop_eq_nil_of_le (by omega)]; exact RowL.nil _ _)
          go_upto_region 8 with fail
          go_wp2_with (at_builtin; go_loud (refine wpList_append_rowL rfl (.tmp 31) (.tmp 35) 23 rfl w.heap.size 9 it (.string ⟨#[]⟩) 16 Try.underlying23 hit ht0 ht1 ht2 rfl (by decide) txC_len txC_one _ P.length (strs P) rfl HOp.out _ _ (args.drop (i + 1)) (by rw [List.length_drop]; rfl) HDd'.out (fun q => by cases q) (by rw [HDl.out]; unfold maxLen; omega) (by rw [HDl.out]; omega) HB.out.size ?_; intro ao cp w5 hown hgrow; rw [txC_strs] at hown; have HO5 := Lib.hid hown; have HB5 := Lib.hid (HB.out.grown hgrow HB.out.size (fun k hk => (HOp.out.lt k hk).1)); have HOo5 := Lib.hid (HOo.out.kept hgrow (owns_apart HOo.out HOp.out)); clear hown hgrow))
          refine bodyPost_ret (v := .tuple #[_, _, .string ⟨#[]⟩, .bool true]) (by simp [results, Try.results11, go_sem]; exact ⟨rfl, rfl⟩) rfl ⟨?_, HB5.out⟩
          rw [HE2.out]
          exact ⟨_, _, rfl, HOo5.out, by rw [List.length_append, strs_app]; have q5 := HO5.out; rw [HDl.out] at q5 ⊢; exact q5⟩
        · go_upto_region 8 with fail
          go_wp2_with (at_builtin; go_loud (refine wpList_append_rowL rfl (.tmp 31) (.tmp 35) 23 rfl w.heap.size 9 it (.string ⟨#[]⟩) 16 Try.underlying23 hit ht0 ht1 ht2 rfl (by decide) txC_len txC_one _ P.length (strs P) rfl HOp.out _ _ (args.drop (i + 1)) (by rw [List.length_drop]; rfl) HDd.out (fun q => by cases q) (by rw [HDl.out]; unfold maxLen; omega) (by rw [HDl.out]; omega) HB.out.size ?_; intro ao cp w5 hown hgrow; rw [txC_strs] at hown; have HO5 := Lib.hid hown; have HB5 := Lib.hid (HB.out.grown hgrow HB.out.size (fun k hk => (HOp.out.lt k hk).1)); have HOo5 := Lib.hid (HOo.out.kept hgrow (owns_apart HOo.out HOp.out)); clear hown hgrow))
          refine bodyPost_ret (v := .tuple #[_, _, .string ⟨#[]⟩, .bool true]) (by simp [results, Try.results11, go_sem]; exact ⟨rfl, rfl⟩) rfl ⟨?_, HB5.out⟩
          rw [HE2.out]
          exact ⟨_, _, rfl, HOo5.out, by rw [List.length_append, strs_app]; have q5 := HO5.out; rw [HDl.out] at q5 ⊢; exact q5⟩
-- BR A END
      · -- a name
-- BR C
        as_aux_lemma =>
        have hx2 : x.size = r.length + 2 := by rw [← hls, q]; rfl
        have HX2 := Lib.hid hx2
        have hx1 : 0 < x.size := by omega
        have hx0 : x[0]'hx1 = 45 := byte_at q hx1 rfl
        have e2 : (x.toList == [45, 45]) = false := beq_eq_false_iff_ne.2 fun z => by
          rw [Lib.toList_data] at z
          have z2 : listB x = [45, 45] := z
          rw [q] at z2
          exact hr (by simpa using z2)
        have e3 : decide ((x.size : Int) < 2) = false := decide_eq_false (by omega)
        have HBg := Lib.hid (begins_any x ⟨#[45, 45]⟩ wr (by omega) (by decide))
        rw [show Lib.hasPrefix (listB x) (listB ⟨#[45, 45]⟩) = true from by rw [q]; rfl] at HBg
        have HQ := Lib.hid q
        have HK := Lib.hid (show kindA specs x = longM specs r from by unfold kindA; rw [q]; exact kind_long hr)
        have HSpr := Lib.hid (HSp.out.keep HB.out)
        have hel := eqAt_le r
        obtain ⟨E, hE⟩ : ∃ E, eqAt r + 2 = E := ⟨_, rfl⟩
        have HEE := Lib.hid hE
        have hE1 : E ≤ x.size := by omega
        have hE2 : 2 ≤ E := by omega
        clear q hr hls hx2 hel hE
        go_upto_region 13 with (go_at_call 17; refine HBg.out.mono ?_; rintro e w3 ⟨rfl, hw3⟩; subst hw3)
        go_loopw [12] (EqRel E w3) (fun v _ => E - (intOf v).toNat)
        case atStart => exact ⟨2, Nat.le_refl _, hE2, rfl, rfl⟩
        case round =>
          obtain ⟨e, he1, he2, rfl, rfl⟩ := hrel
          by_cases hle : e < E
          · obtain ⟨bb, hbb, hne⟩ := eqAt_no (l := r) (i := e - 2) (by have := HEE.out; omega)
            have hxe : e < x.size := by omega
            have hb2 : x[e]'hxe = bb := byte_at HQ.out hxe (by rw [show e = (e - 2) + 1 + 1 by omega]; exact hbb)
            have d1 : decide ((e : Int) < (x.size : Int)) = true := decide_eq_true (by omega)
            have d2 : ((bb.toNat : Int) != 61) = true := by
              rw [bne_iff_ne]
              intro z
              exact hne (UInt8.toNat_inj.1 (show bb.toNat = 61 by omega))
            clear hbb hne
            go_wp2_with fail
            go_roundw
            case rel => exact ⟨e + 1, by omega, by omega, by simp, rfl⟩
            case measure => simp [intOf]; omega
          · obtain rfl : e = E := by omega
            have hex : x.extract 2 e = byL (nameL r) := ext_name HQ.out HEE.out
            have HX := Lib.hid hex
            have HMe := Lib.hid (rmeant_any specs (byL (nameL r)) sa sc wr HSpr.out (by omega) (fun s hs => by have := HY.out s hs; omega) (by
              rw [← listB_len, listB_byL, name_take, List.length_take]
              have := HX2.out
              omega))
            rw [listB_byL] at HMe
            have h2e : (2 : Int) ≤ (e : Int) := by omega
            clear hex
            by_cases hes : e < x.size
            · as_aux_lemma =>
              have hb2 : x[e]'hes = 61 := byte_at HQ.out hes (by
                have z := eqAt_yes (l := r) (by have := HEE.out; have := HX2.out; omega)
                have := HEE.out
                rw [show e = eqAt r + 1 + 1 by omega]
                exact z)
              have d1 : decide ((e : Int) < (x.size : Int)) = true := decide_eq_true (by omega)
              have d2 : (((61 : UInt8).toNat : Int) != 61) = false := by decide
              have d3 : ((e : Int) == (x.size : Int)) = false := beq_eq_false_iff_ne.2 (by omega)
              rcases hmk : meantM specs (nameL r) with _ | k
              · rw [hmk] at HMe
                unfold plI at HMe
                have HE2 := Lib.hid (HE.out.trans (read_bad (specs := specs) (a := x) (O := O) (P := P) (L := args.drop (i + 1)) (by rw [HK.out, long_bad hmk]; rfl)))
                clear hmk
                go_wp2_with (go_at_call 18; rw [HX.out]; refine HMe.out.mono ?_; rintro e w4 ⟨rfl, hw4⟩; subst hw4)
                refine bodyPost_ret (v := .tuple #[.slice none 0 0, .slice none 0 0, .string x, .bool false]) (by simp [results, Try.results11, go_sem]) rfl ⟨?_, HB.out⟩
                rw [HE2.out]
                rfl
              · obtain ⟨s, hsk, hks⟩ := meant_at hmk
                rw [hmk] at HMe
                unfold plI at HMe
                dsimp only at HMe
                have hkl := (List.getElem?_eq_some_iff.1 hsk).1
                obtain ⟨g2, o2, rfl, hg2, s0, s1, s2⟩ := sps_at HSpr.out hsk
                have HKs := Lib.hid hks
                have HMk := Lib.hid hmk
                have k1 : decide ((k : Int) < 0) = false := decide_eq_false (by omega)
                clear hsk hg2 s1 hks hmk
                rcases hv : s.value with _ | _
                · have HE2 := Lib.hid (HE.out.trans (read_bad (specs := specs) (a := x) (O := O) (P := P) (L := args.drop (i + 1)) (by
                    rw [HK.out, long_much HMk.out (by have := HEE.out; have := HX2.out; omega) (by rw [HKs.out, hv])]; rfl)))
                  rw [hv] at s2
                  clear hv
                  go_wp2_with (go_at_call 18; rw [HX.out]; refine HMe.out.mono ?_; rintro e w4 ⟨rfl, hw4⟩; subst hw4)
                  refine bodyPost_ret (v := .tuple #[.slice none 0 0, .slice none 0 0, .string x, .bool false]) (by simp [results, Try.results11, go_sem]) rfl ⟨?_, HB.out⟩
                  rw [HE2.out]
                  rfl
                · rw [hv] at s2
                  have hex2 : x.extract (e + 1) x.size = byL (r.drop (eqAt r + 1)) := by
                    rw [ext_byL HQ.out]
                    have := HEE.out
                    rw [show e + 1 = eqAt r + 1 + 1 + 1 by omega]
                    rfl
                  have HX3 := Lib.hid hex2
                  have HE2 := Lib.hid (HE.out.trans (read_on (specs := specs) (a := x) (O := O) (P := P) (L := args.drop (i + 1)) (O' := O ++ [⟨s.letter, byL (r.drop (eqAt r + 1))⟩]) (P' := P) (L' := args.drop (i + 1)) (by
                    rw [HK.out, long_given HMk.out (by have := HEE.out; have := HX2.out; omega) (by rw [HKs.out, hv]), HKs.out]
                    rfl)))
                  clear hv hex2
                  go_upto_region 24 with (go_at_call 18; rw [HX.out]; refine HMe.out.mono ?_; rintro e w4 ⟨rfl, hw4⟩; subst hw4)
                  rw [HX3.out]
                  generalize byL (r.drop (eqAt r + 1)) = V at HE2 HX3 ⊢
                  -- TAIL 132 | 134 | w4 | s.letter | V | O | HOo | HOp | HB | case rel => exact ⟨i + 1, O ++ [⟨s.letter, V⟩], P, by omega, by simp, HE2, by rw [List.length_append]; show O.length + 1 ≤ _; omega, by omega, Lib.hid (by rw [List.length_append, cellsC_app, cellsC_one]; exact HO7.out), HP7, HB7⟩ | case measure => simp [intOf]; omega
                  have HBx := Lib.hid (HB.out.alloc HB.out.size (.cells #[.int .u8 s.letter, .string V] 35))
                  have HOx := Lib.hid (HOo.out.alloc (.cells #[.int .u8 s.letter, .string V] 35))
                  have HPx := Lib.hid (HOp.out.alloc (.cells #[.int .u8 s.letter, .string V] 35))
                  have HXx := Lib.hid (heap_alloc_new w4 (.cells #[.int .u8 s.letter, .string V] 35))
                  generalize w4.alloc (.cells #[.int .u8 s.letter, .string V] 35) = w6 at HBx HOx HPx HXx ⊢
                  have c0 : w6.cell? ⟨w4.heap.size, 0, none⟩ = some (.int .u8 s.letter) := by rw [cell_of_row _ _ _ _ _ _ HXx.out]; rfl
                  have c1 : w6.cell? ⟨w4.heap.size, 1, none⟩ = some (.string V) := by rw [cell_of_row _ _ _ _ _ _ HXx.out]; rfl
                  go_wp2_with (at_builtin; go_loud (refine wpList_append_own _ rfl (.tmp 132) (.tmp 134) 26 rfl w.heap.size 35 io _ 2 24 Try.underlying26 hio ho0 ho1 ho2 rfl (by decide) _ O.length (cellsC opC O) rfl (HOx.out.alloc _) ⟨w6.heap.size, 0, none⟩ 1 1 (opC ⟨s.letter, V⟩) rfl rfl (World.news_of_block (heap_alloc_new _ _)) (opC_one _) (by unfold maxLen; (try simp only [List.length_append]); omega) (by (try simp only [List.length_append]); omega) (by have := HBx.out.size; simp; omega) ?_; intro v7 w7 hown hgrow hnil; have HO7 := Lib.hid hown; have HB7 := Lib.hid ((HBx.out.alloc HBx.out.size (.cells (opC ⟨s.letter, V⟩).toArray 35)).grown hgrow (by have := HBx.out.size; simp; omega) (fun k hk => (HOx.out.lt k hk).1)); have HP7 := Lib.hid ((HPx.out.alloc (.cells (opC ⟨s.letter, V⟩).toArray 35)).kept hgrow (owns_apart' HOx.out HPx.out)); clear hown hgrow hnil))
                  go_roundw
                  case rel => exact ⟨i + 1, O ++ [⟨s.letter, V⟩], P, by omega, by simp, HE2, by rw [List.length_append]; show O.length + 1 ≤ _; omega, by omega, Lib.hid (by rw [List.length_append, cellsC_app, cellsC_one]; exact HO7.out), HP7, HB7⟩
                  case measure => simp [intOf]; omega
                  -- TAIL END
            · as_aux_lemma =>
              have d1 : decide ((e : Int) < (x.size : Int)) = false := decide_eq_false (by omega)
              have d3 : ((e : Int) == (x.size : Int)) = true := beq_iff_eq.2 (by omega)
              rcases hmk : meantM specs (nameL r) with _ | k
              · rw [hmk] at HMe
                unfold plI at HMe
                have HE2 := Lib.hid (HE.out.trans (read_bad (specs := specs) (a := x) (O := O) (P := P) (L := args.drop (i + 1)) (by rw [HK.out, long_bad hmk]; rfl)))
                clear hmk
                go_wp2_with (go_at_call 18; rw [HX.out]; refine HMe.out.mono ?_; rintro e w4 ⟨rfl, hw4⟩; subst hw4)
                refine bodyPost_ret (v := .tuple #[.slice none 0 0, .slice none 0 0, .string x, .bool false]) (by simp [results, Try.results11, go_sem]) rfl ⟨?_, HB.out⟩
                rw [HE2.out]
                rfl
              · obtain ⟨s, hsk, hks⟩ := meant_at hmk
                rw [hmk] at HMe
                unfold plI at HMe
                dsimp only at HMe
                have hkl := (List.getElem?_eq_some_iff.1 hsk).1
                obtain ⟨g2, o2, rfl, hg2, s0, s1, s2⟩ := sps_at HSpr.out hsk
                have HKs := Lib.hid hks
                have HMk := Lib.hid hmk
                have k1 : decide ((k : Int) < 0) = false := decide_eq_false (by omega)
                have s2a : ∀ ob, (wr.alloc ob).cell? ⟨g2, o2 + k * 3 + 2, none⟩ = some (.bool s.value) := fun ob => (((Below.refl _ _).alloc (Nat.le_refl _) ob).cell (p := ⟨g2, _, none⟩) hg2).trans s2
                clear hsk hg2 s1 hks hmk
                rcases hv : s.value with _ | _
                · have HE2 := Lib.hid (HE.out.trans (read_on (specs := specs) (a := x) (O := O) (P := P) (L := args.drop (i + 1)) (O' := O ++ [⟨s.letter, ⟨#[]⟩⟩]) (P' := P) (L' := args.drop (i + 1)) (by
                    rw [HK.out, long_plain HMk.out (by have := HEE.out; have := HX2.out; omega) (by rw [HKs.out, hv]), HKs.out]
                    rfl)))
                  rw [hv] at s2 s2a
                  clear hv
                  go_upto_region 24 with (go_at_call 18; rw [HX.out]; refine HMe.out.mono ?_; rintro e w4 ⟨rfl, hw4⟩; subst hw4)
                  -- TAIL 132 | 134 | w4 | s.letter | ⟨#[]⟩ | O | HOo | HOp | HB | case rel => exact ⟨i + 1, O ++ [⟨s.letter, ⟨#[]⟩⟩], P, by omega, by simp, HE2, by rw [List.length_append]; show O.length + 1 ≤ _; omega, by omega, Lib.hid (by rw [List.length_append, cellsC_app, cellsC_one]; exact HO7.out), HP7, HB7⟩ | case measure => simp [intOf]; omega
                  have HBx := Lib.hid (HB.out.alloc HB.out.size (.cells #[.int .u8 s.letter, .string ⟨#[]⟩] 35))
                  have HOx := Lib.hid (HOo.out.alloc (.cells #[.int .u8 s.letter, .string ⟨#[]⟩] 35))
                  have HPx := Lib.hid (HOp.out.alloc (.cells #[.int .u8 s.letter, .string ⟨#[]⟩] 35))
                  have HXx := Lib.hid (heap_alloc_new w4 (.cells #[.int .u8 s.letter, .string ⟨#[]⟩] 35))
                  generalize w4.alloc (.cells #[.int .u8 s.letter, .string ⟨#[]⟩] 35) = w6 at HBx HOx HPx HXx ⊢
                  have c0 : w6.cell? ⟨w4.heap.size, 0, none⟩ = some (.int .u8 s.letter) := by rw [cell_of_row _ _ _ _ _ _ HXx.out]; rfl
                  have c1 : w6.cell? ⟨w4.heap.size, 1, none⟩ = some (.string ⟨#[]⟩) := by rw [cell_of_row _ _ _ _ _ _ HXx.out]; rfl
                  go_wp2_with (at_builtin; go_loud (refine wpList_append_own _ rfl (.tmp 132) (.tmp 134) 26 rfl w.heap.size 35 io _ 2 24 Try.underlying26 hio ho0 ho1 ho2 rfl (by decide) _ O.length (cellsC opC O) rfl (HOx.out.alloc _) ⟨w6.heap.size, 0, none⟩ 1 1 (opC ⟨s.letter, ⟨#[]⟩⟩) rfl rfl (World.news_of_block (heap_alloc_new _ _)) (opC_one _) (by unfold maxLen; (try simp only [List.length_append]); omega) (by (try simp only [List.length_append]); omega) (by have := HBx.out.size; simp; omega) ?_; intro v7 w7 hown hgrow hnil; have HO7 := Lib.hid hown; have HB7 := Lib.hid ((HBx.out.alloc HBx.out.size (.cells (opC ⟨s.letter, ⟨#[]⟩⟩).toArray 35)).grown hgrow (by have := HBx.out.size; simp; omega) (fun k hk => (HOx.out.lt k hk).1)); have HP7 := Lib.hid ((HPx.out.alloc (.cells (opC ⟨s.letter, ⟨#[]⟩⟩).toArray 35)).kept hgrow (owns_apart' HOx.out HPx.out)); clear hown hgrow hnil))
                  go_roundw
                  case rel => exact ⟨i + 1, O ++ [⟨s.letter, ⟨#[]⟩⟩], P, by omega, by simp, HE2, by rw [List.length_append]; show O.length + 1 ≤ _; omega, by omega, Lib.hid (by rw [List.length_append, cellsC_app, cellsC_one]; exact HO7.out), HP7, HB7⟩
                  case measure => simp [intOf]; omega
                  -- TAIL END
                · rw [hv] at s2 s2a
                  have HKv := Lib.hid (show longM specs r = .next [] s.letter from by
                    rw [long_next HMk.out (by have := HEE.out; have := HX2.out; omega) (by rw [HKs.out, hv]), HKs.out])
                  clear hv
                  by_cases hlast : i + 1 = args.length
                  · have d5 : ((i : Int) + 1 == (args.length : Int)) = true := beq_iff_eq.2 (by omega)
                    have HE2 := Lib.hid (HE.out.trans (read_bad (specs := specs) (a := x) (O := O) (P := P) (L := args.drop (i + 1)) (by rw [HK.out, HKv.out, List.drop_eq_nil_of_le (by omega)]; rfl)))
                    go_wp2_with (go_at_call 18; rw [HX.out]; refine HMe.out.mono ?_; rintro e w4 ⟨rfl, hw4⟩; subst hw4)
                    refine bodyPost_ret (v := .tuple #[.slice none 0 0, .slice none 0 0, .string x, .bool false]) (by simp [results, Try.results11, go_sem]) rfl ⟨?_, HB.out⟩
                    rw [HE2.out]
                    rfl
                  · have d5 : ((i : Int) + 1 == (args.length : Int)) = false := beq_eq_false_iff_ne.2 (by omega)
                    obtain ⟨y, hyi⟩ : ∃ y, args[i + 1]? = some y := ⟨_, List.getElem?_eq_getElem (by omega)⟩
                    have r0y : ∀ ob, (wr.alloc ob).cell? ⟨g, o + (i + 1), none⟩ = some (.string y) := fun ob => by
                      obtain ⟨g', o', e', hg', hr'⟩ := txt_at (HTx.out.keep (HB.out.trans ((Below.refl wr.heap.size wr).alloc (Nat.le_refl _) ob |>.mono HB.out.size))) hyi
                      simp only [Option.some.injEq, Addr.mk.injEq] at e'
                      obtain ⟨rfl, rfl, _⟩ := e'
                      exact hr'
                    have HE2 := Lib.hid (HE.out.trans (read_on (specs := specs) (a := x) (O := O) (P := P) (L := args.drop (i + 1)) (O' := O ++ [⟨s.letter, y⟩]) (P' := P) (L' := args.drop (i + 1 + 1)) (by
                      rw [HK.out, HKv.out, List.drop_eq_getElem_cons (by omega)]
                      rw [List.getElem?_eq_getElem (by omega)] at hyi
                      rw [Option.some.inj hyi]
                      rfl)))
                    clear hyi
                    go_upto_region 24 with (go_at_call 18; rw [HX.out]; refine HMe.out.mono ?_; rintro e w4 ⟨rfl, hw4⟩; subst hw4)
                    -- TAIL 132 | 134 | w4 | s.letter | y | O | HOo | HOp | HB | case rel => exact ⟨i + 1 + 1, O ++ [⟨s.letter, y⟩], P, by omega, by simp, HE2, by rw [List.length_append]; show O.length + 1 ≤ _; omega, by omega, Lib.hid (by rw [List.length_append, cellsC_app, cellsC_one]; exact HO7.out), HP7, HB7⟩ | case measure => simp [intOf]; omega
                    have HBx := Lib.hid (HB.out.alloc HB.out.size (.cells #[.int .u8 s.letter, .string y] 35))
                    have HOx := Lib.hid (HOo.out.alloc (.cells #[.int .u8 s.letter, .string y] 35))
                    have HPx := Lib.hid (HOp.out.alloc (.cells #[.int .u8 s.letter, .string y] 35))
                    have HXx := Lib.hid (heap_alloc_new w4 (.cells #[.int .u8 s.letter, .string y] 35))
                    generalize w4.alloc (.cells #[.int .u8 s.letter, .string y] 35) = w6 at HBx HOx HPx HXx ⊢
                    have c0 : w6.cell? ⟨w4.heap.size, 0, none⟩ = some (.int .u8 s.letter) := by rw [cell_of_row _ _ _ _ _ _ HXx.out]; rfl
                    have c1 : w6.cell? ⟨w4.heap.size, 1, none⟩ = some (.string y) := by rw [cell_of_row _ _ _ _ _ _ HXx.out]; rfl
                    go_wp2_with (at_builtin; go_loud (refine wpList_append_own _ rfl (.tmp 132) (.tmp 134) 26 rfl w.heap.size 35 io _ 2 24 Try.underlying26 hio ho0 ho1 ho2 rfl (by decide) _ O.length (cellsC opC O) rfl (HOx.out.alloc _) ⟨w6.heap.size, 0, none⟩ 1 1 (opC ⟨s.letter, y⟩) rfl rfl (World.news_of_block (heap_alloc_new _ _)) (opC_one _) (by unfold maxLen; (try simp only [List.length_append]); omega) (by (try simp only [List.length_append]); omega) (by have := HBx.out.size; simp; omega) ?_; intro v7 w7 hown hgrow hnil; have HO7 := Lib.hid hown; have HB7 := Lib.hid ((HBx.out.alloc HBx.out.size (.cells (opC ⟨s.letter, y⟩).toArray 35)).grown hgrow (by have := HBx.out.size; simp; omega) (fun k hk => (HOx.out.lt k hk).1)); have HP7 := Lib.hid ((HPx.out.alloc (.cells (opC ⟨s.letter, y⟩).toArray 35)).kept hgrow (owns_apart' HOx.out HPx.out)); clear hown hgrow hnil))
                    go_roundw
                    case rel => exact ⟨i + 1 + 1, O ++ [⟨s.letter, y⟩], P, by omega, by simp, HE2, by rw [List.length_append]; show O.length + 1 ≤ _; omega, by omega, Lib.hid (by rw [List.length_append, cellsC_app, cellsC_one]; exact HO7.out), HP7, HB7⟩
                    case measure => simp [intOf]; omega
                    -- TAIL END
-- BR C END
      · -- letters
-- BR D
        as_aux_lemma =>
        have hx2 : x.size = r.length + 2 := by rw [← hls, q]; rfl
        have hx1 : 0 < x.size := by omega
        have hx0 : x[0]'hx1 = 45 := byte_at q hx1 rfl
        have e2 : (x.toList == [45, 45]) = false := beq_eq_false_iff_ne.2 fun z => by
          rw [Lib.toList_data] at z
          have z2 : listB x = [45, 45] := z
          rw [q] at z2
          exact hcc (by simp at z2; exact z2.1)
        have e3 : decide ((x.size : Int) < 2) = false := decide_eq_false (by omega)
        have HBg := Lib.hid (begins_any x ⟨#[45, 45]⟩ wr (by omega) (by decide))
        rw [show Lib.hasPrefix (listB x) (listB ⟨#[45, 45]⟩) = false from by
          rw [q]
          show List.isPrefixOf [45, 45] (45 :: c :: r) = false
          rw [Bool.eq_false_iff]
          intro z
          have := List.isPrefixOf_iff_prefix.1 z
          obtain ⟨y, hy⟩ := this
          simp at hy
          exact hcc hy.1.symm] at HBg
        have HK := Lib.hid (show kindA specs x = ltK (lettersM specs (c :: r)) from by unfold kindA; rw [q]; exact kind_letters hcc)
        obtain ⟨l, hl⟩ : ∃ l, c :: r = l := ⟨_, rfl⟩
        have hll : x.size = l.length + 1 := by rw [← hl, hx2]; rfl
        rw [hl] at q HK
        have HQ := Lib.hid q
        have HLl := Lib.hid hll
        clear q hcc hls hx2 hl hll
        go_upto_region 26 with (go_at_call 17; refine HBg.out.mono ?_; rintro e w3 ⟨rfl, hw3⟩; subst hw3)
        go_loopw [8, 10, 15] (LtR specs args l i O P w _) (fun _ _ v _ => x.size + 2 - (intOf v).toNat)
        case atStart => exact ⟨1, rfl, Nat.le_refl _, by omega, HOp, HB, .inl ⟨[], by omega, rfl, rfl, Lib.hid (by rw [mores_nil]; rfl), by rw [List.append_nil]; exact HOo⟩⟩
        case round =>
          obtain ⟨m, rfl, hm1, hm2, HPr, HBr, halt⟩ := hrel
          by_cases hmx : m < x.size
          · have f1 : decide ((m : Int) < (x.size : Int)) = true := decide_eq_true (by omega)
            rcases halt with ⟨O1, hm3, hO1, rfl, HM, HOr⟩ | ⟨j, O', hm3, _⟩
            · have hml : m - 1 < l.length := by have := HLl.out; omega
              obtain ⟨b, hb⟩ : ∃ b, x[m]'hmx = b := ⟨_, rfl⟩
              have hlb : l.drop (m - 1) = b :: l.drop m := by
                rw [drop_at hml, show m - 1 + 1 = m by omega]
                have h1 : (listB x)[m]? = some (x[m]'hmx) := list_at hmx
                rw [HQ.out, hb, show m = (m - 1) + 1 by omega, List.getElem?_cons_succ, List.getElem?_eq_getElem hml] at h1
                rw [Option.some.inj h1]
              rw [hlb] at HM
              have HSpr := Lib.hid (HSp.out.keep HBr.out)
              have HLe := Lib.hid (rletter_any specs (b.toNat : Int) sa sc wr HSpr.out (by omega))
              rw [show findK (fun s => decide (s.letter = (b.toNat : Int))) specs 0 = letterM specs b from rfl] at HLe
              clear hlb
              rcases hmk : letterM specs b with _ | k
              · as_aux_lemma =>
                rw [hmk] at HLe
                unfold plI at HLe
                have HE2 := Lib.hid (HE.out.trans (read_bad (specs := specs) (a := x) (O := O) (P := P) (L := args.drop (i + 1)) (by rw [HK.out, HM.out, letters_bad hmk]; rfl)))
                clear hmk
                go_wp2_with (go_at_call 19; refine HLe.out.mono ?_; rintro e w4 ⟨rfl, hw4⟩; subst hw4)
                refine bodyPost_ret (v := .tuple #[.slice none 0 0, .slice none 0 0, .string x, .bool false]) (by simp [results, Try.results11, go_sem]) rfl ⟨?_, HBr.out⟩
                rw [HE2.out]
                rfl
              · obtain ⟨s, hsk, hks⟩ := letter_at hmk
                have hsl := letter_is hmk
                rw [hmk] at HLe
                unfold plI at HLe
                dsimp only at HLe
                have hkl := (List.getElem?_eq_some_iff.1 hsk).1
                obtain ⟨g2, o2, rfl, hg2, s0, s1, s2⟩ := sps_at HSpr.out hsk
                have HKs := Lib.hid hks
                have HMk := Lib.hid hmk
                have k1 : decide ((k : Int) < 0) = false := decide_eq_false (by omega)
                have s2a : ∀ ob, (wr.alloc ob).cell? ⟨g2, o2 + k * 3 + 2, none⟩ = some (.bool s.value) := fun ob => (((Below.refl _ _).alloc (Nat.le_refl _) ob).cell (p := ⟨g2, _, none⟩) hg2).trans s2
                clear hsk hg2 s0 s1 hks hmk hsl
                rcases hv : s.value with _ | _
                · as_aux_lemma =>
                  rw [hv] at s2 s2a
                  have HMn := Lib.hid (show lettersM specs l = (lettersM specs (l.drop m)).mores (O1 ++ [⟨(b.toNat : Int), ⟨#[]⟩⟩]) from by
                    rw [HM.out, letters_more HMk.out (by rw [HKs.out, hv]), mores_more]; rfl)
                  clear hv
                  go_upto_region 38 with (go_at_call 19; refine HLe.out.mono ?_; rintro e w4 ⟨rfl, hw4⟩; subst hw4)
                  -- TAIL 206 | 208 | w4 | (b.toNat : Int) | ⟨#[]⟩ | (O ++ O1) | HOr | HPr | HBr | case rel => exact ⟨m + 1, by simp, by omega, by omega, HP7, HB7, .inl ⟨O1 ++ [⟨(b.toNat : Int), ⟨#[]⟩⟩], by have := HLl.out; omega, by rw [List.length_append]; show O1.length + 1 + 1 = _; omega, rfl, Lib.hid (by rw [HMn.out, Nat.add_sub_cancel]), Lib.hid (by rw [← List.append_assoc, List.length_append, cellsC_app, cellsC_one]; exact HO7.out)⟩⟩ | case measure => simp [intOf]; omega
                  have HBx := Lib.hid (HBr.out.alloc HBr.out.size (.cells #[.int .u8 (b.toNat : Int), .string ⟨#[]⟩] 35))
                  have HOx := Lib.hid (HOr.out.alloc (.cells #[.int .u8 (b.toNat : Int), .string ⟨#[]⟩] 35))
                  have HPx := Lib.hid (HPr.out.alloc (.cells #[.int .u8 (b.toNat : Int), .string ⟨#[]⟩] 35))
                  have HXx := Lib.hid (heap_alloc_new w4 (.cells #[.int .u8 (b.toNat : Int), .string ⟨#[]⟩] 35))
                  generalize w4.alloc (.cells #[.int .u8 (b.toNat : Int), .string ⟨#[]⟩] 35) = w6 at HBx HOx HPx HXx ⊢
                  have c0 : w6.cell? ⟨w4.heap.size, 0, none⟩ = some (.int .u8 (b.toNat : Int)) := by rw [cell_of_row _ _ _ _ _ _ HXx.out]; rfl
                  have c1 : w6.cell? ⟨w4.heap.size, 1, none⟩ = some (.string ⟨#[]⟩) := by rw [cell_of_row _ _ _ _ _ _ HXx.out]; rfl
                  go_wp2_with (at_builtin; go_loud (refine wpList_append_own _ rfl (.tmp 206) (.tmp 208) 26 rfl w.heap.size 35 io _ 2 24 Try.underlying26 hio ho0 ho1 ho2 rfl (by decide) _ (O ++ O1).length (cellsC opC (O ++ O1)) rfl (HOx.out.alloc _) ⟨w6.heap.size, 0, none⟩ 1 1 (opC ⟨(b.toNat : Int), ⟨#[]⟩⟩) rfl rfl (World.news_of_block (heap_alloc_new _ _)) (opC_one _) (by unfold maxLen; (try simp only [List.length_append]); omega) (by (try simp only [List.length_append]); omega) (by have := HBx.out.size; simp; omega) ?_; intro v7 w7 hown hgrow hnil; have HO7 := Lib.hid hown; have HB7 := Lib.hid ((HBx.out.alloc HBx.out.size (.cells (opC ⟨(b.toNat : Int), ⟨#[]⟩⟩).toArray 35)).grown hgrow (by have := HBx.out.size; simp; omega) (fun k hk => (HOx.out.lt k hk).1)); have HP7 := Lib.hid ((HPx.out.alloc (.cells (opC ⟨(b.toNat : Int), ⟨#[]⟩⟩).toArray 35)).kept hgrow (owns_apart' HOx.out HPx.out)); clear hown hgrow hnil))
                  go_roundw
                  case rel => exact ⟨m + 1, by simp, by omega, by omega, HP7, HB7, .inl ⟨O1 ++ [⟨(b.toNat : Int), ⟨#[]⟩⟩], by have := HLl.out; omega, by rw [List.length_append]; show O1.length + 1 + 1 = _; omega, rfl, Lib.hid (by rw [HMn.out, Nat.add_sub_cancel]), Lib.hid (by rw [← List.append_assoc, List.length_append, cellsC_app, cellsC_one]; exact HO7.out)⟩⟩
                  case measure => simp [intOf]; omega
                  -- TAIL END
                · as_aux_lemma =>
                  rw [hv] at s2 s2a
                  have HKv := Lib.hid (show (spAt specs k).value = true from by rw [HKs.out, hv])
                  clear hv
                  by_cases hm4 : m + 1 < x.size
                  · have f2 : decide ((m : Int) + 1 < (x.size : Int)) = true := decide_eq_true (by omega)
                    have f3 : ((m : Int) + 1 == (x.size : Int)) = false := beq_eq_false_iff_ne.2 (by omega)
                    have hex2 : x.extract (m + 1) x.size = byL (l.drop m) := by rw [ext_byL HQ.out]; rfl
                    have HX3 := Lib.hid hex2
                    have HE2 := Lib.hid (HE.out.trans (read_on (specs := specs) (a := x) (O := O) (P := P) (L := args.drop (i + 1)) (O' := O ++ O1 ++ [⟨(b.toNat : Int), byL (l.drop m)⟩]) (P' := P) (L' := args.drop (i + 1)) (by
                      rw [HK.out, HM.out, letters_last HMk.out HKv.out (fun z => by have := List.drop_eq_nil_iff.1 z; have := HLl.out; omega)]
                      simp [Lt.mores, ltK, stepM])))
                    clear hex2
                    go_upto_region 38 with (go_at_call 19; refine HLe.out.mono ?_; rintro e w4 ⟨rfl, hw4⟩; subst hw4)
                    rw [HX3.out]
                    generalize byL (l.drop m) = V at HE2 HX3 ⊢
                    -- TAIL 206 | 208 | w4 | (b.toNat : Int) | V | (O ++ O1) | HOr | HPr | HBr | case rel => exact ⟨x.size + 1, by simp, by omega, by have := HLl.out; omega, HP7, HB7, .inr ⟨i, O ++ O1 ++ [⟨(b.toNat : Int), V⟩], by have := HLl.out; omega, rfl, Nat.le_refl _, hlt, by rw [List.length_append, List.length_append]; show O.length + O1.length + 1 ≤ _; omega, HE2, Lib.hid (by rw [List.length_append, cellsC_app, cellsC_one]; exact HO7.out)⟩⟩ | case measure => simp [intOf]; omega
                    have HBx := Lib.hid (HBr.out.alloc HBr.out.size (.cells #[.int .u8 (b.toNat : Int), .string V] 35))
                    have HOx := Lib.hid (HOr.out.alloc (.cells #[.int .u8 (b.toNat : Int), .string V] 35))
                    have HPx := Lib.hid (HPr.out.alloc (.cells #[.int .u8 (b.toNat : Int), .string V] 35))
                    have HXx := Lib.hid (heap_alloc_new w4 (.cells #[.int .u8 (b.toNat : Int), .string V] 35))
                    generalize w4.alloc (.cells #[.int .u8 (b.toNat : Int), .string V] 35) = w6 at HBx HOx HPx HXx ⊢
                    have c0 : w6.cell? ⟨w4.heap.size, 0, none⟩ = some (.int .u8 (b.toNat : Int)) := by rw [cell_of_row _ _ _ _ _ _ HXx.out]; rfl
                    have c1 : w6.cell? ⟨w4.heap.size, 1, none⟩ = some (.string V) := by rw [cell_of_row _ _ _ _ _ _ HXx.out]; rfl
                    go_wp2_with (at_builtin; go_loud (refine wpList_append_own _ rfl (.tmp 206) (.tmp 208) 26 rfl w.heap.size 35 io _ 2 24 Try.underlying26 hio ho0 ho1 ho2 rfl (by decide) _ (O ++ O1).length (cellsC opC (O ++ O1)) rfl (HOx.out.alloc _) ⟨w6.heap.size, 0, none⟩ 1 1 (opC ⟨(b.toNat : Int), V⟩) rfl rfl (World.news_of_block (heap_alloc_new _ _)) (opC_one _) (by unfold maxLen; (try simp only [List.length_append]); omega) (by (try simp only [List.length_append]); omega) (by have := HBx.out.size; simp; omega) ?_; intro v7 w7 hown hgrow hnil; have HO7 := Lib.hid hown; have HB7 := Lib.hid ((HBx.out.alloc HBx.out.size (.cells (opC ⟨(b.toNat : Int), V⟩).toArray 35)).grown hgrow (by have := HBx.out.size; simp; omega) (fun k hk => (HOx.out.lt k hk).1)); have HP7 := Lib.hid ((HPx.out.alloc (.cells (opC ⟨(b.toNat : Int), V⟩).toArray 35)).kept hgrow (owns_apart' HOx.out HPx.out)); clear hown hgrow hnil))
                    go_roundw
                    case rel => exact ⟨x.size + 1, by simp, by omega, by have := HLl.out; omega, HP7, HB7, .inr ⟨i, O ++ O1 ++ [⟨(b.toNat : Int), V⟩], by have := HLl.out; omega, rfl, Nat.le_refl _, hlt, by rw [List.length_append, List.length_append]; show O.length + O1.length + 1 ≤ _; omega, HE2, Lib.hid (by rw [List.length_append, cellsC_app, cellsC_one]; exact HO7.out)⟩⟩
                    case measure => simp [intOf]; omega
                    -- TAIL END
                  · have f2 : decide ((m : Int) + 1 < (x.size : Int)) = false := decide_eq_false (by omega)
                    have f3 : ((m : Int) + 1 == (x.size : Int)) = true := beq_iff_eq.2 (by omega)
                    have HLs := Lib.hid (show lettersM specs l = .next O1 (b.toNat : Int) from by
                      rw [HM.out, List.drop_eq_nil_of_le (by have := HLl.out; omega), letters_next HMk.out HKv.out]
                      simp [Lt.mores])
                    by_cases hlast : i + 1 = args.length
                    · have d5 : ((i : Int) + 1 == (args.length : Int)) = true := beq_iff_eq.2 (by omega)
                      have HE2 := Lib.hid (HE.out.trans (read_bad (specs := specs) (a := x) (O := O) (P := P) (L := args.drop (i + 1)) (by rw [HK.out, HLs.out, List.drop_eq_nil_of_le (by omega)]; rfl)))
                      go_wp2_with (go_at_call 19; refine HLe.out.mono ?_; rintro e w4 ⟨rfl, hw4⟩; subst hw4)
                      refine bodyPost_ret (v := .tuple #[.slice none 0 0, .slice none 0 0, .string x, .bool false]) (by simp [results, Try.results11, go_sem]) rfl ⟨?_, HBr.out⟩
                      rw [HE2.out]
                      rfl
                    · have d5 : ((i : Int) + 1 == (args.length : Int)) = false := beq_eq_false_iff_ne.2 (by omega)
                      obtain ⟨y, hyi⟩ : ∃ y, args[i + 1]? = some y := ⟨_, List.getElem?_eq_getElem (by omega)⟩
                      have r0y : ∀ ob, (wr.alloc ob).cell? ⟨g, o + (i + 1), none⟩ = some (.string y) := fun ob => by
                        obtain ⟨g', o', e', hg', hr'⟩ := txt_at (HTx.out.keep (HBr.out.trans ((Below.refl wr.heap.size wr).alloc (Nat.le_refl _) ob |>.mono HBr.out.size))) hyi
                        simp only [Option.some.injEq, Addr.mk.injEq] at e'
                        obtain ⟨rfl, rfl, _⟩ := e'
                        exact hr'
                      have HE2 := Lib.hid (HE.out.trans (read_on (specs := specs) (a := x) (O := O) (P := P) (L := args.drop (i + 1)) (O' := O ++ O1 ++ [⟨(b.toNat : Int), y⟩]) (P' := P) (L' := args.drop (i + 1 + 1)) (by
                        rw [HK.out, HLs.out, List.drop_eq_getElem_cons (by omega)]
                        rw [List.getElem?_eq_getElem (by omega)] at hyi
                        rw [Option.some.inj hyi]
                        simp [ltK, stepM])))
                      clear hyi
                      go_upto_region 38 with (go_at_call 19; refine HLe.out.mono ?_; rintro e w4 ⟨rfl, hw4⟩; subst hw4)
                      -- TAIL 206 | 208 | w4 | (b.toNat : Int) | y | (O ++ O1) | HOr | HPr | HBr | case rel => exact ⟨m + 1, by simp, by omega, by omega, HP7, HB7, .inr ⟨i + 1, O ++ O1 ++ [⟨(b.toNat : Int), y⟩], by have := HLl.out; omega, by simp, by omega, by omega, by rw [List.length_append, List.length_append]; show O.length + O1.length + 1 ≤ _; omega, HE2, Lib.hid (by rw [List.length_append, cellsC_app, cellsC_one]; exact HO7.out)⟩⟩ | case measure => simp [intOf]; omega
                      have HBx := Lib.hid (HBr.out.alloc HBr.out.size (.cells #[.int .u8 (b.toNat : Int), .string y] 35))
                      have HOx := Lib.hid (HOr.out.alloc (.cells #[.int .u8 (b.toNat : Int), .string y] 35))
                      have HPx := Lib.hid (HPr.out.alloc (.cells #[.int .u8 (b.toNat : Int), .string y] 35))
                      have HXx := Lib.hid (heap_alloc_new w4 (.cells #[.int .u8 (b.toNat : Int), .string y] 35))
                      generalize w4.alloc (.cells #[.int .u8 (b.toNat : Int), .string y] 35) = w6 at HBx HOx HPx HXx ⊢
                      have c0 : w6.cell? ⟨w4.heap.size, 0, none⟩ = some (.int .u8 (b.toNat : Int)) := by rw [cell_of_row _ _ _ _ _ _ HXx.out]; rfl
                      have c1 : w6.cell? ⟨w4.heap.size, 1, none⟩ = some (.string y) := by rw [cell_of_row _ _ _ _ _ _ HXx.out]; rfl
                      go_wp2_with (at_builtin; go_loud (refine wpList_append_own _ rfl (.tmp 206) (.tmp 208) 26 rfl w.heap.size 35 io _ 2 24 Try.underlying26 hio ho0 ho1 ho2 rfl (by decide) _ (O ++ O1).length (cellsC opC (O ++ O1)) rfl (HOx.out.alloc _) ⟨w6.heap.size, 0, none⟩ 1 1 (opC ⟨(b.toNat : Int), y⟩) rfl rfl (World.news_of_block (heap_alloc_new _ _)) (opC_one _) (by unfold maxLen; (try simp only [List.length_append]); omega) (by (try simp only [List.length_append]); omega) (by have := HBx.out.size; simp; omega) ?_; intro v7 w7 hown hgrow hnil; have HO7 := Lib.hid hown; have HB7 := Lib.hid ((HBx.out.alloc HBx.out.size (.cells (opC ⟨(b.toNat : Int), y⟩).toArray 35)).grown hgrow (by have := HBx.out.size; simp; omega) (fun k hk => (HOx.out.lt k hk).1)); have HP7 := Lib.hid ((HPx.out.alloc (.cells (opC ⟨(b.toNat : Int), y⟩).toArray 35)).kept hgrow (owns_apart' HOx.out HPx.out)); clear hown hgrow hnil))
                      go_roundw
                      case rel => exact ⟨m + 1, by simp, by omega, by omega, HP7, HB7, .inr ⟨i + 1, O ++ O1 ++ [⟨(b.toNat : Int), y⟩], by have := HLl.out; omega, by simp, by omega, by omega, by rw [List.length_append, List.length_append]; show O.length + O1.length + 1 ≤ _; omega, HE2, Lib.hid (by rw [List.length_append, cellsC_app, cellsC_one]; exact HO7.out)⟩⟩
                      case measure => simp [intOf]; omega
                      -- TAIL END
            · have := HLl.out
              omega
          · as_aux_lemma =>
            have f1 : decide ((m : Int) < (x.size : Int)) = false := decide_eq_false (by omega)
            rcases halt with ⟨O1, hm3, hO1, rfl, HM, HOr⟩ | ⟨j, O', hm3, rfl, hij, hj, hO', HE2, HOr⟩
            · have HE2 := Lib.hid (HE.out.trans (read_on (specs := specs) (a := x) (O := O) (P := P) (L := args.drop (i + 1)) (O' := O ++ O1) (P' := P) (L' := args.drop (i + 1)) (by
                rw [HK.out, HM.out, List.drop_eq_nil_of_le (by have := HLl.out; omega), letters_nil]
                simp [Lt.mores, ltK, stepM])))
              go_wp2_with fail
              go_roundw
              case rel => exact ⟨i + 1, O ++ O1, P, by omega, by simp, HE2, by rw [List.length_append]; have := HLl.out; omega, by omega, HOr, HPr, HBr⟩
              case measure => simp [intOf]; omega
            · go_wp2_with fail
              go_roundw
              case rel => exact ⟨j + 1, O', P, by omega, by simp, HE2, by omega, by omega, HOr, HPr, HBr⟩
              case measure => simp [intOf]; omega
-- BR D END
      · -- an operand
-- BR B
        as_aux_lemma =>
        have e2 : (x.toList == [45, 45]) = false := beq_eq_false_iff_ne.2 fun z => q (by rw [Lib.toList_data] at z; exact z)
        have HE2 := Lib.hid (HE.out.trans (read_on (specs := specs) (a := x) (O := O) (P := P) (L := args.drop (i + 1)) (O' := O) (P' := P ++ [x]) (L' := args.drop (i + 1)) (by unfold kindA; rw [hkd]; rfl)))
        clear q hkd
        rcases hsh with h2 | ⟨b, r, hb, hq, hr⟩
        · have e3 : decide ((x.size : Int) < 2) = true := decide_eq_true (by omega)
          go_wp2_with (at_builtin; go_loud (refine wpList_append_own _ rfl (.tmp 45) (.tmp 47) 23 rfl w.heap.size 9 it (.string ⟨#[]⟩) 1 16 Try.underlying23 hit ht0 ht1 ht2 rfl (by decide) _ P.length (strs P) rfl (HOp.out.alloc _) ⟨wr.heap.size, 0, none⟩ 1 1 [.string x] rfl rfl (World.news_of_block (heap_alloc_new _ _)) (by intro u hu; simp at hu; subst hu; rfl) (by unfold maxLen; omega) (by omega) (by have := HB.out.size; simp; omega) ?_; intro v5 w5 hown hgrow hnil; have HO5 := Lib.hid hown; have HB5 := Lib.hid ((HB.out.alloc HB.out.size (.cells #[.string x] 9)).grown hgrow (by have := HB.out.size; simp; omega) (fun k hk => (HOp.out.lt k hk).1)); have HOo5 := Lib.hid ((HOo.out.alloc (.cells #[.string x] 9)).kept hgrow (owns_apart HOo.out HOp.out)); clear hown hgrow hnil))
          go_roundw
          case rel => exact ⟨i + 1, O, P ++ [x], by omega, by simp, HE2, by omega, by rw [List.length_append]; show P.length + 1 ≤ _; omega, HOo5, by rw [List.length_append, strs_app]; exact HO5, HB5⟩
          case measure => simp [intOf]; omega
        · have hx2 : 2 ≤ x.size := by
            rw [← hls, hq]
            cases r with
            | nil => exact absurd rfl hr
            | cons d r => simp
          have hx1 : 0 < x.size := by omega
          have hx0 : x[0]'hx1 = b := byte_at hq hx1 rfl
          have e3 : decide ((x.size : Int) < 2) = false := decide_eq_false (by omega)
          have e4 : ((b.toNat : Int) != 45) = true := by
            rw [bne_iff_ne]
            intro z
            exact hb (UInt8.toNat_inj.1 (show b.toNat = 45 by omega))
          clear hq hr hb hls
          go_wp2_with (at_builtin; go_loud (refine wpList_append_own _ rfl (.tmp 45) (.tmp 47) 23 rfl w.heap.size 9 it (.string ⟨#[]⟩) 1 16 Try.underlying23 hit ht0 ht1 ht2 rfl (by decide) _ P.length (strs P) rfl (HOp.out.alloc _) ⟨wr.heap.size, 0, none⟩ 1 1 [.string x] rfl rfl (World.news_of_block (heap_alloc_new _ _)) (by intro u hu; simp at hu; subst hu; rfl) (by unfold maxLen; omega) (by omega) (by have := HB.out.size; simp; omega) ?_; intro v5 w5 hown hgrow hnil; have HO5 := Lib.hid hown; have HB5 := Lib.hid ((HB.out.alloc HB.out.size (.cells #[.string x] 9)).grown hgrow (by have := HB.out.size; simp; omega) (fun k hk => (HOp.out.lt k hk).1)); have HOo5 := Lib.hid ((HOo.out.alloc (.cells #[.string x] 9)).kept hgrow (owns_apart HOo.out HOp.out)); clear hown hgrow hnil))
          go_roundw
          case rel => exact ⟨i + 1, O, P ++ [x], by omega, by simp, HE2, by omega, by rw [List.length_append]; show P.length + 1 ≤ _; omega, HOo5, by rw [List.length_append, strs_app]; exact HO5, HB5⟩
          case measure => simp [intOf]; omega
-- BR B END
    · have e1 : decide ((i : Int) < (args.length : Int)) = false := decide_eq_false (by omega)
      rw [List.drop_eq_nil_of_le (by omega), read_end] at HE
      go_wp2_with fail
      refine bodyPost_ret (v := .tuple #[_, _, .string ⟨#[]⟩, .bool true]) (by simp [results, Try.results11, go_sem]; exact ⟨rfl, rfl⟩) rfl ⟨?_, HB.out⟩
      rw [HE.out]
      exact ⟨_, _, rfl, HOo.out, HOp.out⟩
end Go.Proofs.Ytboolblccahadaa.A
