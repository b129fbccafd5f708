/-
  What facts' written returns: a format, with what each directive tells in its place. Conditions: a format of at most 1000 bytes, texts of at most 60000; the tables lie.
-/
import Derived.Test.YtigkdehaepenhaaDoorJTold
import Derived.Test.YtigkdehaepenhaaDoorTill
import Derived.Test.YtigkdehaepenhaaDoorShelf
set_option linter.unusedSimpArgs false
set_option linter.unusedVariables false
namespace Go.Proofs.YtigkdehaepenhaaDoor.J
open Go.Proofs.YtigkdehaepenhaaDoor.B
open Go.RowKit

def szOf : Value → Nat
  | .string s => s.size
  | _ => 0
def WrRel (n : P.Nv) (nm qt : By) (f : ByteArray) (W0 : World) (b K : Nat) (v1 : Value) (wr : World) : Prop :=
  ∃ (t : ByteArray) (out : By), v1 = .string t ∧ Hid (P.Bld W0 b out wr) ∧ Hid (out ++ fmtJ n nm qt t.data.toList = fmtJ n nm qt f.data.toList) ∧ t.size ≤ f.size ∧ Hid (∀ c ∈ t.data.toList, c ∈ f.data.toList) ∧ out.length ≤ K * f.size
theorem drop_size (t : ByteArray) (k : Nat) : (t.extract k t.size).data.toList = t.data.toList.drop k := by
  have hl : t.data.toList.length = t.size := by simp
  rw [ByteArray.data_extract, Array.toList_extract, List.extract_eq_take_drop, ← hl, List.take_of_length_le]
  simp
theorem take_bytes (t : ByteArray) (k : Nat) : (t.extract 0 k).data.toList = t.data.toList.take k := by
  rw [ByteArray.data_extract, Array.toList_extract, List.extract_eq_take_drop]
  simp
theorem two_at (f : ByteArray) (k : Nat) (h : k + 1 < f.size) (h37 : f.data.toList[k]? = some 37) : (f.extract k (k + 2)).data.toList = [37, f[k + 1]'h] := by
  have hl : f.data.toList.length = f.size := by simp
  have e1 : f.data.toList.drop k = 37 :: f.data.toList.drop (k + 1) := by
    obtain ⟨hi, he⟩ := List.getElem?_eq_some_iff.1 h37
    rw [List.drop_eq_getElem_cons hi, he]
  have e2 : f.data.toList.drop (k + 1) = (f[k + 1]'h) :: f.data.toList.drop (k + 2) := List.drop_eq_getElem_cons (l := f.data.toList) (by omega)
  rw [ByteArray.data_extract, Array.toList_extract, List.extract_eq_take_drop, e1, e2, show k + 2 - k = 2 by omega]
  rfl

set_option maxRecDepth 100000 in
set_option maxHeartbeats 16000000 in
theorem written_any (n : P.Nv) (nm lt : ByteArray) (qf : ByteArray → ByteArray) (f : ByteArray) (w : World) (ht : FTab w) (hN : NumJ n) (hq : (78 : UInt8) ∈ f.data.toList → QJ qf w) (hn : nm.size ≤ 60000) (hl : lt.size ≤ 60000) (hf : f.size ≤ 1000) (hqs : (quotB qf n.kind nm lt).size ≤ 900000) :
    Calls Tryd.prog 17 #[subV n nm lt, .string f] w fun e w' => e = .returned (.string (txt (fmtJ n nm.data.toList (quotB qf n.kind nm lt).data.toList f.data.toList))) ∧ Below w.heap.size w w' := by
  have HTd := Lib.hid (fun (dir : ByteArray) (hz : 1 < dir.size) (c : UInt8) (hc : dir[1]'hz = c) (hm : c ∈ f.data.toList) (W : World) (hb : Below w.heap.size w W) => told_any n nm lt qf dir hz c hc W (ht.keep hb) hN (fun e => (hq (by rw [e] at hm; exact hm)).keep hb) hn hl)
  have hl1 : nm.data.toList.length ≤ 900000 := by rw [size_list]; omega
  have hl2 : (quotB qf n.kind nm lt).data.toList.length ≤ 900000 := by rw [size_list]; omega
  have HLn := Lib.hid (fun (c : UInt8) (s : By) (h : oneJ n nm.data.toList (quotB qf n.kind nm lt).data.toList c = some s) => oneJ_len hN hl1 hl2 (by omega) c s h)
  have HLf := Lib.hid (show (fmtJ n nm.data.toList (quotB qf n.kind nm lt).data.toList f.data.toList).length ≤ 900000 * f.size from by
    have := fmtJ_len hN hl1 hl2 (by omega) f.data.toList
    rwa [size_list] at this)
  clear ht hN hq hqs hl1 hl2
  generalize (quotB qf n.kind nm lt).data.toList = qt at HTd HLn HLf ⊢
  obtain ⟨nl, hnl⟩ : ∃ nl, nm.data.toList = nl := ⟨_, rfl⟩
  rw [hnl] at HTd HLn HLf ⊢
  clear hnl hn hl
  unfold subV subC at HTd ⊢
  go_enter Tryd.func17, Tryd.ntmps17
  go_upto_region 1 with fail
  obtain ⟨B0, hB0⟩ : ∃ B0, w.heap.size = B0 := ⟨_, rfl⟩
  obtain ⟨w1, hw1⟩ : ∃ w1, w.alloc (.cells #[.int .i64 n.dev, .int .i64 n.ino, .int .i64 n.kind, .int .i64 n.mode, .int .i64 n.uid, .int .i64 n.gid, .int .i64 n.size, .int .i64 n.blocks, .int .i64 n.links, .int .i64 n.ta, .int .i64 n.tb, .int .i64 n.tc, .string n.target, .string nm, .string lt] 51) = w1 := ⟨_, rfl⟩
  have HB1 := Lib.hid (show Below w.heap.size w w1 from by rw [← hw1]; exact (Below.refl _ _).alloc (Nat.le_refl _) _)
  have HX1 := Lib.hid (show w1.heap[B0]? = some (.cells #[.int .i64 n.dev, .int .i64 n.ino, .int .i64 n.kind, .int .i64 n.mode, .int .i64 n.uid, .int .i64 n.gid, .int .i64 n.size, .int .i64 n.blocks, .int .i64 n.links, .int .i64 n.ta, .int .i64 n.tb, .int .i64 n.tc, .string n.target, .string nm, .string lt] 51) from by rw [← hw1, ← hB0]; exact heap_alloc_new _ _)
  rw [hw1, hB0]
  clear hw1 hB0
  have HM := Lib.hid (P.Bld.made w1)
  go_upto_region 2 with fail
  go_loopw [1] (WrRel n nl qt f w1 w1.heap.size 900000) (fun v _ => szOf v)
  case atStart => exact ⟨f, [], rfl, HM, Lib.hid rfl, Nat.le_refl _, Lib.hid (fun c h => h), Nat.zero_le _⟩
  case round =>
    obtain ⟨t, out, rfl, HB, HE, hts, HS, hol⟩ := hrel
    have HIb := Lib.hid (fun (W : World) => Tryd.strings_IndexByte t 37 W)
    simp only [show (37 : Int).toNat.toUInt8 = 37 from rfl] at HIb
    have htl : t.data.toList.length = t.size := size_list t
    by_cases hno : Lib.indexByte t.data.toList 37 = -1
    · have HF := Lib.hid (show out ++ t.data.toList = fmtJ n nl qt f.data.toList from by rw [← HE.out, fmtJ_no hno])
      rw [hno] at HIb
      clear hno HE
      go_wp2_with (first
        | (go_at_call 26; refine (HIb.out _).mono ?_; rintro e w2 ⟨rfl, hw⟩; subst hw)
        | (go_at_call 27; refine (HB.out.writeString (by omega) t (by omega)).mono ?_; rintro e w3 ⟨⟨v3, rfl⟩, hB3, _⟩; have HB3 := Lib.hid hB3; clear hB3)
        | (go_at_call 28; refine HB3.out.string.mono ?_; rintro e w4 ⟨rfl, hb4⟩; have HB4 := Lib.hid hb4; clear hb4))
      try rw [Exit.noGoto_ret]
      go_ret
      exact ⟨by rw [HF.out]; rfl, below_two HB1.out HB4.out⟩
    · have hge := Lib.indexByte_ge t.data.toList 37
      obtain ⟨i, hi⟩ : ∃ i : Nat, Lib.indexByte t.data.toList 37 = (i : Int) := ⟨(Lib.indexByte t.data.toList 37).toNat, by omega⟩
      obtain ⟨hil, _, h37⟩ := at_split hi
      have HI := Lib.hid hi
      rw [hi] at HIb
      have dn : decide ((i : Int) < 0) = false := decide_eq_false (by omega)
      by_cases hlast : i + 1 = t.size
      · have HF := Lib.hid (show out ++ t.data.toList = fmtJ n nl qt f.data.toList from by rw [← HE.out, fmtJ_last hi (by omega)])
        have dl : ((i : Int) == (t.size : Int) - 1) = true := beq_iff_eq.2 (by omega)
        clear hi HE h37 hno hge HI
        go_wp2_with (first
          | (go_at_call 26; refine (HIb.out _).mono ?_; rintro e w2 ⟨rfl, hw⟩; subst hw)
          | (go_at_call 27; refine (HB.out.writeString (by omega) t (by omega)).mono ?_; rintro e w3 ⟨⟨v3, rfl⟩, hB3, _⟩; have HB3 := Lib.hid hB3; clear hB3)
          | (go_at_call 28; refine HB3.out.string.mono ?_; rintro e w4 ⟨rfl, hb4⟩; have HB4 := Lib.hid hb4; clear hb4))
        try rw [Exit.noGoto_ret]
        go_ret
        exact ⟨by rw [HF.out]; rfl, below_two HB1.out HB4.out⟩
      · have dl : ((i : Int) == (t.size : Int) - 1) = false := beq_eq_false_iff_ne.2 (by omega)
        have hin : i + 1 < t.size := by omega
        obtain ⟨c, hc⟩ : ∃ c, t[i + 1]'hin = c := ⟨_, rfl⟩
        have hcl : t.data.toList[i + 1]? = some c := by rw [List.getElem?_eq_getElem (by omega), ← hc]; rfl
        have HCm := Lib.hid (HS.out c (List.mem_of_getElem? hcl))
        have hdir := two_at t i hin (by rw [List.getElem?_eq_getElem hil]; have := List.drop_eq_getElem_cons hil; rw [h37] at this; exact congrArg some (List.cons.inj this).1.symm)
        rw [hc] at hdir
        obtain ⟨D, hD⟩ : ∃ D, t.extract i (i + 2) = D := ⟨_, rfl⟩
        rw [hD] at hdir
        have hDs : 1 < D.size := by have := congrArg List.length hdir; rw [size_list] at this; simp only [List.length_cons, List.length_nil] at this; omega
        have hD1 : D[1]'hDs = c := by
          have e1 : D.data.toList[1]? = some (D[1]'hDs) := list_at hDs
          rw [hdir] at e1
          exact (Option.some.inj e1).symm
        have HCt := Lib.hid (fun (W : World) (hb : Below w.heap.size w W) => HTd.out D hDs c hD1 HCm.out W hb)
        rw [hdir] at HCt
        have HSt := Lib.hid (fmtJ_step (n := n) (nm := nl) (qt := qt) hi hcl)
        have HSl := Lib.hid (show ((oneJ n nl qt c).getD [37, c]).length ≤ 900000 from by
          cases ho : oneJ n nl qt c with
          | none => show 2 ≤ _; omega
          | some s => exact HLn.out c s ho)
        obtain ⟨S, hS⟩ : ∃ S, (oneJ n nl qt c).getD [37, c] = S := ⟨_, rfl⟩
        rw [hS] at HCt HSt HSl
        have HPre : Hid ((t.extract 0 i).data.toList = t.data.toList.take i) := Lib.hid (take_bytes t i)
        have HPost : Hid ((t.extract (i + 2) t.size).data.toList = t.data.toList.drop (i + 2)) := Lib.hid (drop_size t (i + 2))
        have hps : (t.extract 0 i).size = i := by rw [← size_list, HPre.out, List.length_take]; omega
        have hqs : (t.extract (i + 2) t.size).size = t.size - (i + 2) := by rw [← size_list, HPost.out, List.length_drop]; omega
        have HFin := Lib.hid (show (out ++ t.data.toList.take i ++ S) ++ fmtJ n nl qt (t.data.toList.drop (i + 2)) = fmtJ n nl qt f.data.toList ∧ (out ++ t.data.toList.take i ++ S).length ≤ 900000 * f.size from by
          have e : (out ++ t.data.toList.take i ++ S) ++ fmtJ n nl qt (t.data.toList.drop (i + 2)) = fmtJ n nl qt f.data.toList := by rw [← HE.out, HSt.out, List.append_assoc, List.append_assoc]
          have e2 := congrArg List.length e
          rw [List.length_append] at e2
          exact ⟨e, by have := HLf.out; omega⟩)
        have HSs := Lib.hid (show ∀ c ∈ (t.extract (i + 2) t.size).data.toList, c ∈ f.data.toList from fun c hc => HS.out c (List.mem_of_mem_drop (by rw [HPost.out] at hc; exact hc)))
        have hms : out.length + i ≤ 900000 * f.size := by
          have := HFin.out.2
          rw [List.length_append, List.length_append, List.length_take] at this
          omega
        have i1 : (i : Int) + 2 ≤ (t.size : Int) := by omega
        have i2 : (0 : Int) ≤ (i : Int) := by omega
        have i3 : (i : Int) ≤ (i : Int) + 2 := by omega
        have i4 : (0 : Int) ≤ (i : Int) + 2 := by omega
        have i5 : ((i : Int) + 2).toNat = i + 2 := by omega
        have i6 : ((i : Int)).toNat = i := by omega
        have i7 : (i : Int) ≤ (t.size : Int) := by omega
        have hw2 : IntKind.i64.wrap ((i : Int) + 2) = (i : Int) + 2 := IntWalk.i64_in _ (by omega)
        clear hi HE h37 hno hge HI hS hcl hdir hD1 hc HSt
        generalize hpx : t.extract 0 i = PX at HPre hps
        generalize hqx : t.extract (i + 2) t.size = QX at HPost hqs HSs
        go_upto_region 6 with (go_at_call 26; refine (HIb.out _).mono ?_; rintro e w2 ⟨rfl, hw⟩; subst hw)
        go_upto_region 7 with (go_at_call 27; refine (HB.out.writeString (by omega) PX (by omega)).mono ?_; rintro e w3 ⟨⟨v3, rfl⟩, hB3, _⟩; have HB3 := Lib.hid hB3; clear hB3)
        have HXs := Lib.hid (show ∀ X, Below w1.heap.size w1 X → X.heap[B0]? = some (.cells #[.int .i64 n.dev, .int .i64 n.ino, .int .i64 n.kind, .int .i64 n.mode, .int .i64 n.uid, .int .i64 n.gid, .int .i64 n.size, .int .i64 n.blocks, .int .i64 n.links, .int .i64 n.ta, .int .i64 n.tb, .int .i64 n.tc, .string n.target, .string nm, .string lt] 51) from fun X hX => (hX.block _ (heap_lt HX1.out)).trans HX1.out)
-- TILL 1
        refine B.Till.region (z := 1000) (S := fun w' => Below w1.heap.size w1 w') (by kernel_rfl) (HB3.out.2.1.drew) (fun hHeld => ?_)
        refine B.Till.takeA (i := 0) (oi := { dst := some 25, op := Op.load 51 (Operand.tmp 2), type := 51, pos := "facts.go:64", after := #[], guard := none }) (v := .agg #[.int .i64 n.dev, .int .i64 n.ino, .int .i64 n.kind, .int .i64 n.mode, .int .i64 n.uid, .int .i64 n.gid, .int .i64 n.size, .int .i64 n.blocks, .int .i64 n.links, .int .i64 n.ta, .int .i64 n.tb, .int .i64 n.tc, .string n.target, .string nm, .string lt]) rfl (by kernel_rfl) (by kernel_rfl) (by kernel_rfl) (by kernel_rfl) (fun _ _ _ h => h) (yieldsIf_load_mid (by rfl) 51 (.tmp 2) rfl B0 0 rfl [.int .i64 n.dev, .int .i64 n.ino, .int .i64 n.kind, .int .i64 n.mode, .int .i64 n.uid, .int .i64 n.gid, .int .i64 n.size, .int .i64 n.blocks, .int .i64 n.links, .int .i64 n.ta, .int .i64 n.tb, .int .i64 n.tc, .string n.target, .string nm, .string lt] _ (fun w0 hS0 => range_of (HXs.out _ hS0)) Tryd.underlying51 rfl sizeSub) (by assumption) ?_
        try simp only [Act.put, List.setIfInBounds_toArray, List.set_cons_zero, List.set_cons_succ]
        refine B.Till.takeA (i := 1) (oi := { dst := some 26, op := Op.move (Operand.tmp 1), type := 9, pos := "facts.go:64", after := #[], guard := none }) (v := .string t) rfl (by kernel_rfl) (by kernel_rfl) (by kernel_rfl) (by kernel_rfl) (fun _ _ _ h => h) (Or.inl ⟨by rfl, fun w0 hS0 => ?_⟩) (by assumption) ?_
        · go_simp
        try simp only [Act.put, List.setIfInBounds_toArray, List.set_cons_zero, List.set_cons_succ]
        refine B.Till.takeA (i := 2) (oi := { dst := some 27, op := Op.move (Operand.tmp 6), type := 3, pos := "facts.go:64", after := #[], guard := none }) (v := .int .i64 (i : Int)) rfl (by kernel_rfl) (by kernel_rfl) (by kernel_rfl) (by kernel_rfl) (fun _ _ _ h => h) (Or.inl ⟨by rfl, fun w0 hS0 => ?_⟩) (by assumption) ?_
        · go_simp
        try simp only [Act.put, List.setIfInBounds_toArray, List.set_cons_zero, List.set_cons_succ]
        refine B.Till.takeA (i := 3) (oi := { dst := some 28, op := Op.move (Operand.tmp 6), type := 3, pos := "facts.go:64", after := #[], guard := none }) (v := .int .i64 (i : Int)) rfl (by kernel_rfl) (by kernel_rfl) (by kernel_rfl) (by kernel_rfl) (fun _ _ _ h => h) (Or.inl ⟨by rfl, fun w0 hS0 => ?_⟩) (by assumption) ?_
        · go_simp
        try simp only [Act.put, List.setIfInBounds_toArray, List.set_cons_zero, List.set_cons_succ]
        refine B.Till.takeA (i := 4) (oi := { dst := some 29, op := Op.binOp BinOp.add 3 (Operand.tmp 28) (Operand.const (Value.int IntKind.i64 2)) 3, type := 3, pos := "facts.go:64", after := #[{ on := 3, ground := Ground.data }], guard := none }) (v := .int .i64 ((i : Int) + 2)) rfl (by kernel_rfl) (by kernel_rfl) (by kernel_rfl) (by kernel_rfl) (fun _ _ _ h => h) (Or.inl ⟨by rfl, fun w0 hS0 => ?_⟩) (by assumption) ?_
        · go_simp
        try simp only [Act.put, List.setIfInBounds_toArray, List.set_cons_zero, List.set_cons_succ]
        refine B.Till.takeA (i := 5) (oi := { dst := some 30, op := Op.slice 9 (Operand.tmp 26) (some (Operand.tmp 27)) (some (Operand.tmp 29)) none, type := 9, pos := "facts.go:64", after := #[{ on := 1, ground := Ground.data }, { on := 2, ground := Ground.data }, { on := 4, ground := Ground.data }], guard := none }) (v := .string D) rfl (by kernel_rfl) (by kernel_rfl) (by kernel_rfl) (by kernel_rfl) (fun _ _ _ h => h) (Or.inl ⟨by rfl, fun w0 hS0 => ?_⟩) (by assumption) ?_
        · go_simp
        try simp only [Act.put, List.setIfInBounds_toArray, List.set_cons_zero, List.set_cons_succ]
        refine B.Till.next (i := 6) (o := { dst := some 31, op := Op.call { callee := Callee.value (Operand.func 29), args := #[Operand.tmp 25, Operand.tmp 30], argTypes := #[51, 9] }, type := 9, pos := "facts.go:64", after := #[{ on := 0, ground := Ground.data }, { on := 5, ground := Ground.data }], guard := none }) (by kernel_rfl) rfl (fun K hK => ?_)
        go_simp
        refine (HCt.out _ (below_two HB1.out hHeld)).mono ?_
        rintro e w4 ⟨rfl, hb4⟩
        have hH4 : Below w3.heap.size w3 w4 := ((Below.refl _ _).drew).trans hb4
        clear hb4
        go_wp2_with fail
        refine hK.out _ _ (fun _ => HB3.out.2.1.trans (hH4.mono HB3.out.2.2)) ?_
        clear hK K
        try simp only [Act.put, List.setIfInBounds_toArray, List.set_cons_zero, List.set_cons_succ]
        refine B.Till.next (i := 7) (o := { dst := some 32, op := Op.call { callee := Callee.value (Operand.func 27), args := #[Operand.tmp 5, Operand.tmp 31], argTypes := #[70, 9] }, type := 74, pos := "facts.go:64", after := #[{ on := 6, ground := Ground.data }, { on := 6, ground := Ground.chain }], guard := none }) (by kernel_rfl) rfl (fun K hK => ?_)
        go_simp
        have hB4 := HB3.out.keep hH4
        refine (hB4.writeString (by rw [List.length_append, HPre.out, List.length_take]; omega) (txt S) (by rw [txt_size]; have := HSl.out; omega)).mono ?_
        rintro e w5 ⟨⟨v5, rfl⟩, hB5, _⟩
        rw [txt_list] at hB5
        have HB5 := Lib.hid hB5
        clear hB5 hB4 hH4
        go_wp2_with fail
        refine hK.out _ _ (fun _ => HB5.out.2.1) ?_
        clear hK K
        try simp only [Act.put, List.setIfInBounds_toArray, List.set_cons_zero, List.set_cons_succ]
        refine B.Till.done (by kernel_rfl) ?_
-- TILL 1 END
        go_wp2_with fail
        go_roundw
        case rel => exact ⟨QX, out ++ PX.data.toList ++ S, by rw [← hqx], HB5, Lib.hid (by rw [HPost.out, HPre.out]; exact HFin.out.1), by omega, HSs, by rw [HPre.out]; exact HFin.out.2⟩
        case measure => simp [szOf, hqx]; omega
end Go.Proofs.YtigkdehaepenhaaDoor.J
