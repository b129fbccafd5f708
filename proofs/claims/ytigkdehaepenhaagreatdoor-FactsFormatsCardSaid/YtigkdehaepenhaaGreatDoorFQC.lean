/-
  What facts' written returns: a format, with what each directive tells in its place. Conditions: a format of at most 1000 bytes, texts of at most 60000; the tables lie.
  What facts.Format returns: what a format tells of a node that there is, an error of one that there isn't. Conditions: what Node and Link return is known; a format of at most 1000 bytes, texts of at most 60000; the tables lie.
  What the listed package-level variables give the facts: the table of classes, powers of ten, trailing noughts. Conditions: none.
  Arrays of texts that came in, and rows of devices. Conditions: what came in lies in memory.
  Plain facts on a text's stretches. Conditions: none.
  What quote.stretches returns. Conditions: the text has at most 1000000 bytes; the library's tables lie.
  What quote.Quote returns, and that the program is awake. Conditions: the text has at most 1000000 bytes; the library's tables lie.
  What the listed package-level variables give the facts, and the package quote: its tables too. Conditions: none.
  Plain facts on what a shell, and C, read: what is quoted is read as it was. Conditions: none.
  What quote.readEscape returns. Conditions: the text has at most 1000000 bytes.
  A scope in which the run jumps among labels; a slice of bytes that a call has made itself: what append does, and what it is as a text. Conditions: at most 1000000000 bytes.
  What quote.C returns: what C reads. Conditions: the text has at most 1000000 bytes.
  What the reference's sign and Kinds return: of each byte what it is. Conditions: the text has at most 1000000 bytes.
-/
import Derived.Test.YtigkdehaepenhaaGreatDoorFJTold
import Derived.Test.YtigkdehaepenhaaGreatDoorShelf
import Derived.Test.YtigkdehaepenhaaGreatDoorFPMark
import Derived.Test.YtigkdehaepenhaaGreatDoorFQSlash
import Derived.Laws.IdiomStrings
import Derived.Test.YtigkdehaepenhaaGreatDoorFQNext
import Derived.Deep.CutRange
set_option linter.unusedSimpArgs false
set_option linter.unusedVariables false
namespace Go.Proofs.YtigkdehaepenhaaGreatDoor.J
open Go.Proofs.YtigkdehaepenhaaGreatDoor.B
open Go.RowKit

def szOf : Value → Nat
  | .string s => s.size
  | _ => 0
def WrRel (n : P.Nv) (nm qt : By) (f : ByteArray) (W0 : World) (b K : Nat) (v1 : Value) (wr : World) : Prop :=
  ∃ (t : ByteArray) (out : By), v1 = .string t ∧ Hid (P.Bld W0 b out wr) ∧ Hid (out ++ fmtJ n nm qt t.data.toList = fmtJ n nm qt f.data.toList) ∧ t.size ≤ f.size ∧ Hid (∀ c ∈ t.data.toList, c ∈ f.data.toList) ∧ out.length ≤ K * f.size
theorem drop_size (t : ByteArray) (k : Nat) : (t.extract k t.size).data.toList = t.data.toList.drop k := by
  have hl : t.data.toList.length = t.size := by simp
  rw [ByteArray.data_extract, Array.toList_extract, List.extract_eq_take_drop, ← hl, List.take_of_length_le]
  simp
theorem take_bytes (t : ByteArray) (k : Nat) : (t.extract 0 k).data.toList = t.data.toList.take k := by
  rw [ByteArray.data_extract, Array.toList_extract, List.extract_eq_take_drop]
  simp
theorem two_at (f : ByteArray) (k : Nat) (h : k + 1 < f.size) (h37 : f.data.toList[k]? = some 37) : (f.extract k (k + 2)).data.toList = [37, f[k + 1]'h] := by
  have hl : f.data.toList.length = f.size := by simp
  have e1 : f.data.toList.drop k = 37 :: f.data.toList.drop (k + 1) := by
    obtain ⟨hi, he⟩ := List.getElem?_eq_some_iff.1 h37
    rw [List.drop_eq_getElem_cons hi, he]
  have e2 : f.data.toList.drop (k + 1) = (f[k + 1]'h) :: f.data.toList.drop (k + 2) := List.drop_eq_getElem_cons (l := f.data.toList) (by omega)
  rw [ByteArray.data_extract, Array.toList_extract, List.extract_eq_take_drop, e1, e2, show k + 2 - k = 2 by omega]
  rfl

set_option maxRecDepth 100000 in
set_option maxHeartbeats 16000000 in
theorem written_any (n : P.Nv) (nm lt : ByteArray) (qf : ByteArray → ByteArray) (f : ByteArray) (w : World) (ht : FTab w) (hN : NumJ n) (hq : (78 : UInt8) ∈ f.data.toList → QJ qf w) (hn : nm.size ≤ 60000) (hl : lt.size ≤ 60000) (hf : f.size ≤ 1000) (hqs : (quotB qf n.kind nm lt).size ≤ 900000) :
    Calls Tryz.prog 23 #[subV n nm lt, .string f] w fun e w' => e = .returned (.string (txt (fmtJ n nm.data.toList (quotB qf n.kind nm lt).data.toList f.data.toList))) ∧ Below w.heap.size w w' := by
  have HTd := Lib.hid (fun (dir : ByteArray) (hz : 1 < dir.size) (c : UInt8) (hc : dir[1]'hz = c) (hm : c ∈ f.data.toList) (W : World) (hb : Below w.heap.size w W) => told_any n nm lt qf dir hz c hc W (ht.keep hb) hN (fun e => (hq (by rw [e] at hm; exact hm)).keep hb) hn hl)
  have hl1 : nm.data.toList.length ≤ 900000 := by rw [size_list]; omega
  have hl2 : (quotB qf n.kind nm lt).data.toList.length ≤ 900000 := by rw [size_list]; omega
  have HLn := Lib.hid (fun (c : UInt8) (s : By) (h : oneJ n nm.data.toList (quotB qf n.kind nm lt).data.toList c = some s) => oneJ_len hN hl1 hl2 (by omega) c s h)
  have HLf := Lib.hid (show (fmtJ n nm.data.toList (quotB qf n.kind nm lt).data.toList f.data.toList).length ≤ 900000 * f.size from by
    have := fmtJ_len hN hl1 hl2 (by omega) f.data.toList
    rwa [size_list] at this)
  clear ht hN hq hqs hl1 hl2
  generalize (quotB qf n.kind nm lt).data.toList = qt at HTd HLn HLf ⊢
  obtain ⟨nl, hnl⟩ : ∃ nl, nm.data.toList = nl := ⟨_, rfl⟩
  rw [hnl] at HTd HLn HLf ⊢
  clear hnl hn hl
  unfold subV subC at HTd ⊢
  go_enter Tryz.func23, Tryz.ntmps23
  go_upto_region 1 with fail
  obtain ⟨B0, hB0⟩ : ∃ B0, w.heap.size = B0 := ⟨_, rfl⟩
  obtain ⟨w1, hw1⟩ : ∃ w1, w.alloc (.cells #[.int .i64 n.dev, .int .i64 n.ino, .int .i64 n.kind, .int .i64 n.mode, .int .i64 n.uid, .int .i64 n.gid, .int .i64 n.size, .int .i64 n.blocks, .int .i64 n.links, .int .i64 n.ta, .int .i64 n.tb, .int .i64 n.tc, .string n.target, .string nm, .string lt] 67) = w1 := ⟨_, rfl⟩
  have HB1 := Lib.hid (show Below w.heap.size w w1 from by rw [← hw1]; exact (Below.refl _ _).alloc (Nat.le_refl _) _)
  have HX1 := Lib.hid (show w1.heap[B0]? = some (.cells #[.int .i64 n.dev, .int .i64 n.ino, .int .i64 n.kind, .int .i64 n.mode, .int .i64 n.uid, .int .i64 n.gid, .int .i64 n.size, .int .i64 n.blocks, .int .i64 n.links, .int .i64 n.ta, .int .i64 n.tb, .int .i64 n.tc, .string n.target, .string nm, .string lt] 67) from by rw [← hw1, ← hB0]; exact heap_alloc_new _ _)
  rw [hw1, hB0]
  clear hw1 hB0
  have HM := Lib.hid (P.Bld.made w1)
  go_upto_region 2 with fail
  go_loopw [1] (WrRel n nl qt f w1 w1.heap.size 900000) (fun v _ => szOf v)
  case atStart => exact ⟨f, [], rfl, HM, Lib.hid rfl, Nat.le_refl _, Lib.hid (fun c h => h), Nat.zero_le _⟩
  case round =>
    obtain ⟨t, out, rfl, HB, HE, hts, HS, hol⟩ := hrel
    have HIb := Lib.hid (fun (W : World) => Tryz.strings_IndexByte t 37 W)
    simp only [show (37 : Int).toNat.toUInt8 = 37 from rfl] at HIb
    have htl : t.data.toList.length = t.size := size_list t
    by_cases hno : Lib.indexByte t.data.toList 37 = -1
    · have HF := Lib.hid (show out ++ t.data.toList = fmtJ n nl qt f.data.toList from by rw [← HE.out, fmtJ_no hno])
      rw [hno] at HIb
      clear hno HE
      go_wp2_with (first
        | (go_at_call 45; refine (HIb.out _).mono ?_; rintro e w2 ⟨rfl, hw⟩; subst hw)
        | (go_at_call 46; refine (HB.out.writeString (by omega) t (by omega)).mono ?_; rintro e w3 ⟨⟨v3, rfl⟩, hB3, _⟩; have HB3 := Lib.hid hB3; clear hB3)
        | (go_at_call 47; refine HB3.out.string.mono ?_; rintro e w4 ⟨rfl, hb4⟩; have HB4 := Lib.hid hb4; clear hb4))
      try rw [Exit.noGoto_ret]
      go_ret
      exact ⟨by rw [HF.out]; rfl, below_two HB1.out HB4.out⟩
    · have hge := Lib.indexByte_ge t.data.toList 37
      obtain ⟨i, hi⟩ : ∃ i : Nat, Lib.indexByte t.data.toList 37 = (i : Int) := ⟨(Lib.indexByte t.data.toList 37).toNat, by omega⟩
      obtain ⟨hil, _, h37⟩ := at_split hi
      have HI := Lib.hid hi
      rw [hi] at HIb
      have dn : decide ((i : Int) < 0) = false := decide_eq_false (by omega)
      by_cases hlast : i + 1 = t.size
      · have HF := Lib.hid (show out ++ t.data.toList = fmtJ n nl qt f.data.toList from by rw [← HE.out, fmtJ_last hi (by omega)])
        have dl : ((i : Int) == (t.size : Int) - 1) = true := beq_iff_eq.2 (by omega)
        clear hi HE h37 hno hge HI
        go_wp2_with (first
          | (go_at_call 45; refine (HIb.out _).mono ?_; rintro e w2 ⟨rfl, hw⟩; subst hw)
          | (go_at_call 46; refine (HB.out.writeString (by omega) t (by omega)).mono ?_; rintro e w3 ⟨⟨v3, rfl⟩, hB3, _⟩; have HB3 := Lib.hid hB3; clear hB3)
          | (go_at_call 47; refine HB3.out.string.mono ?_; rintro e w4 ⟨rfl, hb4⟩; have HB4 := Lib.hid hb4; clear hb4))
        try rw [Exit.noGoto_ret]
        go_ret
        exact ⟨by rw [HF.out]; rfl, below_two HB1.out HB4.out⟩
      · have dl : ((i : Int) == (t.size : Int) - 1) = false := beq_eq_false_iff_ne.2 (by omega)
        have hin : i + 1 < t.size := by omega
        obtain ⟨c, hc⟩ : ∃ c, t[i + 1]'hin = c := ⟨_, rfl⟩
        have hcl : t.data.toList[i + 1]? = some c := by rw [List.getElem?_eq_getElem (by omega), ← hc]; rfl
        have HCm := Lib.hid (HS.out c (List.mem_of_getElem? hcl))
        have hdir := two_at t i hin (by rw [List.getElem?_eq_getElem hil]; have := List.drop_eq_getElem_cons hil; rw [h37] at this; exact congrArg some (List.cons.inj this).1.symm)
        rw [hc] at hdir
        obtain ⟨D, hD⟩ : ∃ D, t.extract i (i + 2) = D := ⟨_, rfl⟩
        rw [hD] at hdir
        have hDs : 1 < D.size := by have := congrArg List.length hdir; rw [size_list] at this; simp only [List.length_cons, List.length_nil] at this; omega
        have hD1 : D[1]'hDs = c := by
          have e1 : D.data.toList[1]? = some (D[1]'hDs) := list_at hDs
          rw [hdir] at e1
          exact (Option.some.inj e1).symm
        have HCt := Lib.hid (fun (W : World) (hb : Below w.heap.size w W) => HTd.out D hDs c hD1 HCm.out W hb)
        rw [hdir] at HCt
        have HSt := Lib.hid (fmtJ_step (n := n) (nm := nl) (qt := qt) hi hcl)
        have HSl := Lib.hid (show ((oneJ n nl qt c).getD [37, c]).length ≤ 900000 from by
          cases ho : oneJ n nl qt c with
          | none => show 2 ≤ _; omega
          | some s => exact HLn.out c s ho)
        obtain ⟨S, hS⟩ : ∃ S, (oneJ n nl qt c).getD [37, c] = S := ⟨_, rfl⟩
        rw [hS] at HCt HSt HSl
        have HPre : Hid ((t.extract 0 i).data.toList = t.data.toList.take i) := Lib.hid (take_bytes t i)
        have HPost : Hid ((t.extract (i + 2) t.size).data.toList = t.data.toList.drop (i + 2)) := Lib.hid (drop_size t (i + 2))
        have hps : (t.extract 0 i).size = i := by rw [← size_list, HPre.out, List.length_take]; omega
        have hqs : (t.extract (i + 2) t.size).size = t.size - (i + 2) := by rw [← size_list, HPost.out, List.length_drop]; omega
        have HFin := Lib.hid (show (out ++ t.data.toList.take i ++ S) ++ fmtJ n nl qt (t.data.toList.drop (i + 2)) = fmtJ n nl qt f.data.toList ∧ (out ++ t.data.toList.take i ++ S).length ≤ 900000 * f.size from by
          have e : (out ++ t.data.toList.take i ++ S) ++ fmtJ n nl qt (t.data.toList.drop (i + 2)) = fmtJ n nl qt f.data.toList := by rw [← HE.out, HSt.out, List.append_assoc, List.append_assoc]
          have e2 := congrArg List.length e
          rw [List.length_append] at e2
          exact ⟨e, by have := HLf.out; omega⟩)
        have HSs := Lib.hid (show ∀ c ∈ (t.extract (i + 2) t.size).data.toList, c ∈ f.data.toList from fun c hc => HS.out c (List.mem_of_mem_drop (by rw [HPost.out] at hc; exact hc)))
        have hms : out.length + i ≤ 900000 * f.size := by
          have := HFin.out.2
          rw [List.length_append, List.length_append, List.length_take] at this
          omega
        have i1 : (i : Int) + 2 ≤ (t.size : Int) := by omega
        have i2 : (0 : Int) ≤ (i : Int) := by omega
        have i3 : (i : Int) ≤ (i : Int) + 2 := by omega
        have i4 : (0 : Int) ≤ (i : Int) + 2 := by omega
        have i5 : ((i : Int) + 2).toNat = i + 2 := by omega
        have i6 : ((i : Int)).toNat = i := by omega
        have i7 : (i : Int) ≤ (t.size : Int) := by omega
        have hw2 : IntKind.i64.wrap ((i : Int) + 2) = (i : Int) + 2 := IntWalk.i64_in _ (by omega)
        clear hi HE h37 hno hge HI hS hcl hdir hD1 hc HSt
        generalize hpx : t.extract 0 i = PX at HPre hps
        generalize hqx : t.extract (i + 2) t.size = QX at HPost hqs HSs
        go_upto_region 6 with (go_at_call 45; refine (HIb.out _).mono ?_; rintro e w2 ⟨rfl, hw⟩; subst hw)
        go_upto_region 7 with (go_at_call 46; refine (HB.out.writeString (by omega) PX (by omega)).mono ?_; rintro e w3 ⟨⟨v3, rfl⟩, hB3, _⟩; have HB3 := Lib.hid hB3; clear hB3)
        have HXs := Lib.hid (show ∀ X, Below w1.heap.size w1 X → X.heap[B0]? = some (.cells #[.int .i64 n.dev, .int .i64 n.ino, .int .i64 n.kind, .int .i64 n.mode, .int .i64 n.uid, .int .i64 n.gid, .int .i64 n.size, .int .i64 n.blocks, .int .i64 n.links, .int .i64 n.ta, .int .i64 n.tb, .int .i64 n.tc, .string n.target, .string nm, .string lt] 67) from fun X hX => (hX.block _ (heap_lt HX1.out)).trans HX1.out)
-- TILL 1
        refine B.Till.region (z := 1000) (S := fun w' => Below w1.heap.size w1 w') (by kernel_rfl) (HB3.out.2.1.drew) (fun hHeld => ?_)
        refine B.Till.takeA (i := 0) (oi := { dst := some 25, op := Op.load 67 (Operand.tmp 2), type := 67, pos := "facts.go:64", after := #[], guard := none }) (v := .agg #[.int .i64 n.dev, .int .i64 n.ino, .int .i64 n.kind, .int .i64 n.mode, .int .i64 n.uid, .int .i64 n.gid, .int .i64 n.size, .int .i64 n.blocks, .int .i64 n.links, .int .i64 n.ta, .int .i64 n.tb, .int .i64 n.tc, .string n.target, .string nm, .string lt]) rfl (by kernel_rfl) (by kernel_rfl) (by kernel_rfl) (by kernel_rfl) (fun _ _ _ h => h) (yieldsIf_load_mid (by rfl) 67 (.tmp 2) rfl B0 0 rfl [.int .i64 n.dev, .int .i64 n.ino, .int .i64 n.kind, .int .i64 n.mode, .int .i64 n.uid, .int .i64 n.gid, .int .i64 n.size, .int .i64 n.blocks, .int .i64 n.links, .int .i64 n.ta, .int .i64 n.tb, .int .i64 n.tc, .string n.target, .string nm, .string lt] _ (fun w0 hS0 => range_of (HXs.out _ hS0)) Tryz.underlying67 rfl sizeSub) (by assumption) ?_
        try simp only [Act.put, List.setIfInBounds_toArray, List.set_cons_zero, List.set_cons_succ]
        refine B.Till.takeA (i := 1) (oi := { dst := some 26, op := Op.move (Operand.tmp 1), type := 9, pos := "facts.go:64", after := #[], guard := none }) (v := .string t) rfl (by kernel_rfl) (by kernel_rfl) (by kernel_rfl) (by kernel_rfl) (fun _ _ _ h => h) (Or.inl ⟨by rfl, fun w0 hS0 => ?_⟩) (by assumption) ?_
        · go_simp
        try simp only [Act.put, List.setIfInBounds_toArray, List.set_cons_zero, List.set_cons_succ]
        refine B.Till.takeA (i := 2) (oi := { dst := some 27, op := Op.move (Operand.tmp 6), type := 3, pos := "facts.go:64", after := #[], guard := none }) (v := .int .i64 (i : Int)) rfl (by kernel_rfl) (by kernel_rfl) (by kernel_rfl) (by kernel_rfl) (fun _ _ _ h => h) (Or.inl ⟨by rfl, fun w0 hS0 => ?_⟩) (by assumption) ?_
        · go_simp
        try simp only [Act.put, List.setIfInBounds_toArray, List.set_cons_zero, List.set_cons_succ]
        refine B.Till.takeA (i := 3) (oi := { dst := some 28, op := Op.move (Operand.tmp 6), type := 3, pos := "facts.go:64", after := #[], guard := none }) (v := .int .i64 (i : Int)) rfl (by kernel_rfl) (by kernel_rfl) (by kernel_rfl) (by kernel_rfl) (fun _ _ _ h => h) (Or.inl ⟨by rfl, fun w0 hS0 => ?_⟩) (by assumption) ?_
        · go_simp
        try simp only [Act.put, List.setIfInBounds_toArray, List.set_cons_zero, List.set_cons_succ]
        refine B.Till.takeA (i := 4) (oi := { dst := some 29, op := Op.binOp BinOp.add 3 (Operand.tmp 28) (Operand.const (Value.int IntKind.i64 2)) 3, type := 3, pos := "facts.go:64", after := #[{ on := 3, ground := Ground.data }], guard := none }) (v := .int .i64 ((i : Int) + 2)) rfl (by kernel_rfl) (by kernel_rfl) (by kernel_rfl) (by kernel_rfl) (fun _ _ _ h => h) (Or.inl ⟨by rfl, fun w0 hS0 => ?_⟩) (by assumption) ?_
        · go_simp
        try simp only [Act.put, List.setIfInBounds_toArray, List.set_cons_zero, List.set_cons_succ]
        refine B.Till.takeA (i := 5) (oi := { dst := some 30, op := Op.slice 9 (Operand.tmp 26) (some (Operand.tmp 27)) (some (Operand.tmp 29)) none, type := 9, pos := "facts.go:64", after := #[{ on := 1, ground := Ground.data }, { on := 2, ground := Ground.data }, { on := 4, ground := Ground.data }], guard := none }) (v := .string D) rfl (by kernel_rfl) (by kernel_rfl) (by kernel_rfl) (by kernel_rfl) (fun _ _ _ h => h) (Or.inl ⟨by rfl, fun w0 hS0 => ?_⟩) (by assumption) ?_
        · go_simp
        try simp only [Act.put, List.setIfInBounds_toArray, List.set_cons_zero, List.set_cons_succ]
        refine B.Till.next (i := 6) (o := { dst := some 31, op := Op.call { callee := Callee.value (Operand.func 48), args := #[Operand.tmp 25, Operand.tmp 30], argTypes := #[67, 9] }, type := 9, pos := "facts.go:64", after := #[{ on := 0, ground := Ground.data }, { on := 5, ground := Ground.data }], guard := none }) (by kernel_rfl) rfl (fun K hK => ?_)
        go_simp
        refine (HCt.out _ (below_two HB1.out hHeld)).mono ?_
        rintro e w4 ⟨rfl, hb4⟩
        have hH4 : Below w3.heap.size w3 w4 := ((Below.refl _ _).drew).trans hb4
        clear hb4
        go_wp2_with fail
        refine hK.out _ _ (fun _ => HB3.out.2.1.trans (hH4.mono HB3.out.2.2)) ?_
        clear hK K
        try simp only [Act.put, List.setIfInBounds_toArray, List.set_cons_zero, List.set_cons_succ]
        refine B.Till.next (i := 7) (o := { dst := some 32, op := Op.call { callee := Callee.value (Operand.func 46), args := #[Operand.tmp 5, Operand.tmp 31], argTypes := #[106, 9] }, type := 110, pos := "facts.go:64", after := #[{ on := 6, ground := Ground.data }, { on := 6, ground := Ground.chain }], guard := none }) (by kernel_rfl) rfl (fun K hK => ?_)
        go_simp
        have hB4 := HB3.out.keep hH4
        refine (hB4.writeString (by rw [List.length_append, HPre.out, List.length_take]; omega) (txt S) (by rw [txt_size]; have := HSl.out; omega)).mono ?_
        rintro e w5 ⟨⟨v5, rfl⟩, hB5, _⟩
        rw [txt_list] at hB5
        have HB5 := Lib.hid hB5
        clear hB5 hB4 hH4
        go_wp2_with fail
        refine hK.out _ _ (fun _ => HB5.out.2.1) ?_
        clear hK K
        try simp only [Act.put, List.setIfInBounds_toArray, List.set_cons_zero, List.set_cons_succ]
        refine B.Till.done (by kernel_rfl) ?_
-- TILL 1 END
        go_wp2_with fail
        go_roundw
        case rel => exact ⟨QX, out ++ PX.data.toList ++ S, by rw [← hqx], HB5, Lib.hid (by rw [HPost.out, HPre.out]; exact HFin.out.1), by omega, HSs, by rw [HPre.out]; exact HFin.out.2⟩
        case measure => simp [szOf, hqx]; omega
end Go.Proofs.YtigkdehaepenhaaGreatDoor.J

namespace Go.Proofs.YtigkdehaepenhaaGreatDoor.J
open Go.Proofs.YtigkdehaepenhaaGreatDoor.B
open Go.RowKit

theorem sizeNode : (Tryz.prog.info? 62).map (·.size) = some 13 := by kernel_rfl
set_option maxRecDepth 100000 in
set_option maxHeartbeats 8000000 in
theorem formatOk_any (fp : Value) (id le : Int) (n : P.Nv) (nm lt f : ByteArray) (qf : ByteArray → ByteArray) (w : World)
    (HN : ∀ X : World, Below w.heap.size w X → Calls Tryz.prog 21 #[fp, .int .i64 id] X fun e w' => e = .returned (.tuple #[P.nodeV n, .int .i64 0]) ∧ Below X.heap.size X w')
    (HL : ∀ X : World, Below w.heap.size w X → Calls Tryz.prog 22 #[fp, .int .i64 id] X fun e w' => e = .returned (.tuple #[.string lt, .int .i64 le]) ∧ Below X.heap.size X w')
    (ht : FTab w) (hN : NumJ n) (hq : (78 : UInt8) ∈ f.data.toList → QJ qf w) (hn : nm.size ≤ 60000) (hl : lt.size ≤ 60000) (hf : f.size ≤ 1000) (hqs : (quotB qf n.kind nm lt).size ≤ 900000) :
    Calls Tryz.prog 9 #[fp, .int .i64 id, .string nm, .string f] w fun e w' => e = .returned (.tuple #[.string (txt (fmtJ n nm.data.toList (quotB qf n.kind nm lt).data.toList f.data.toList)), .int .i64 0]) ∧ Below w.heap.size w w' := by
  have HNd := Lib.hid HN
  have HLk := Lib.hid HL
  have HWr := Lib.hid (fun (W : World) (hb : Below w.heap.size w W) => written_any n nm lt qf f W (ht.keep hb) hN (fun e => (hq e).keep hb) hn hl hf hqs)
  clear HN HL ht hN hq hqs
  generalize txt (fmtJ n nm.data.toList (quotB qf n.kind nm lt).data.toList f.data.toList) = R at HWr ⊢
  unfold P.nodeV at HNd
  unfold subV subC at HWr
  go_enter Tryz.func9, Tryz.ntmps9
  go_upto_region 1 with fail
  go_upto_region 2 with (first
    | (go_at_call 21; refine (HNd.out _ (Below.refl _ _)).mono ?_; rintro e w2 ⟨rfl, hb2⟩; have HB2 := Lib.hid hb2; clear hb2)
    | (refine wpList_store_row rfl 62 (.tmp 10) (.tmp 18) rfl w2.heap.size #[.int .i64 n.dev, .int .i64 n.ino, .int .i64 n.kind, .int .i64 n.mode, .int .i64 n.uid, .int .i64 n.gid, .int .i64 n.size, .int .i64 n.blocks, .int .i64 n.links, .int .i64 n.ta, .int .i64 n.tb, .int .i64 n.tc, .string n.target] rfl rfl 62 _ (heap_alloc_new _ _) sizeNode rfl (ndC_one n) ?_; rw [World.setRow_alloc_new]))
  have HX3 := Lib.hid (heap_alloc_new w2 (.cells #[.int .i64 n.dev, .int .i64 n.ino, .int .i64 n.kind, .int .i64 n.mode, .int .i64 n.uid, .int .i64 n.gid, .int .i64 n.size, .int .i64 n.blocks, .int .i64 n.links, .int .i64 n.ta, .int .i64 n.tb, .int .i64 n.tc, .string n.target] 62))
  have HB3 := Lib.hid (show Below w.heap.size w (w2.alloc (.cells #[.int .i64 n.dev, .int .i64 n.ino, .int .i64 n.kind, .int .i64 n.mode, .int .i64 n.uid, .int .i64 n.gid, .int .i64 n.size, .int .i64 n.blocks, .int .i64 n.links, .int .i64 n.ta, .int .i64 n.tb, .int .i64 n.tc, .string n.target] 62)) from HB2.out.alloc HB2.out.size _)
  generalize w2.alloc (.cells _ 62) = w3 at HX3 HB3 ⊢
  generalize w2.heap.size = B2 at HX3 ⊢
  clear HB2 HNd
  go_upto_region 5 with (go_at_call 22; refine (HLk.out _ (by with_reducible exact HB3.out)).mono ?_; rintro e w4 ⟨rfl, hb4⟩; have HB4 := Lib.hid (below_two HB3.out hb4); have HX4 := Lib.hid ((hb4.block _ (heap_lt HX3.out)).trans HX3.out); clear hb4)
  clear HX3 HB3 HLk
  go_wp2_with (refine wpList_load_row rfl 62 (.tmp 10) rfl B2 rfl 62 _ (0, 0) _ HX4.out Tryz.underlying62 rfl sizeNode ?_)
  refine (HWr.out _ (by with_reducible exact HB4.out)).mono ?_
  rintro e w5 ⟨rfl, hb5⟩
  have HB5 := Lib.hid (below_two HB4.out hb5)
  clear hb5
  go_wp2_with fail
  go_ret2
  exact ⟨rfl, HB5.out⟩
set_option maxRecDepth 100000 in
set_option maxHeartbeats 4000000 in
theorem formatNo_any (fp : Value) (id er : Int) (n : P.Nv) (nm f : ByteArray) (w : World) (he : er ≠ 0)
    (HN : ∀ X : World, Below w.heap.size w X → Calls Tryz.prog 21 #[fp, .int .i64 id] X fun e w' => e = .returned (.tuple #[P.nodeV n, .int .i64 er]) ∧ Below X.heap.size X w') :
    Calls Tryz.prog 9 #[fp, .int .i64 id, .string nm, .string f] w fun e w' => e = .returned (.tuple #[.string ⟨#[]⟩, .int .i64 er]) ∧ Below w.heap.size w w' := by
  have HNd := Lib.hid HN
  have d0 : (er != 0) = true := by simpa using he
  clear HN he
  unfold P.nodeV at HNd
  go_enter Tryz.func9, Tryz.ntmps9
  go_upto_region 1 with fail
  go_upto_region 2 with (first
    | (go_at_call 21; refine (HNd.out _ (Below.refl _ _)).mono ?_; rintro e w2 ⟨rfl, hb2⟩; have HB2 := Lib.hid hb2; clear hb2)
    | (refine wpList_store_row rfl 62 (.tmp 10) (.tmp 18) rfl w2.heap.size #[.int .i64 n.dev, .int .i64 n.ino, .int .i64 n.kind, .int .i64 n.mode, .int .i64 n.uid, .int .i64 n.gid, .int .i64 n.size, .int .i64 n.blocks, .int .i64 n.links, .int .i64 n.ta, .int .i64 n.tb, .int .i64 n.tc, .string n.target] rfl rfl 62 _ (heap_alloc_new _ _) sizeNode rfl (ndC_one n) ?_; rw [World.setRow_alloc_new]))
  have HB3 := Lib.hid (show Below w.heap.size w (w2.alloc (.cells #[.int .i64 n.dev, .int .i64 n.ino, .int .i64 n.kind, .int .i64 n.mode, .int .i64 n.uid, .int .i64 n.gid, .int .i64 n.size, .int .i64 n.blocks, .int .i64 n.links, .int .i64 n.ta, .int .i64 n.tb, .int .i64 n.tc, .string n.target] 62)) from HB2.out.alloc HB2.out.size _)
  generalize w2.alloc (.cells _ 62) = w3 at HB3 ⊢
  clear HB2 HNd
  go_wp2_with fail
  go_ret2
  exact ⟨rfl, HB3.out⟩
end Go.Proofs.YtigkdehaepenhaaGreatDoor.J

namespace Go.Proofs.YtigkdehaepenhaaGreatDoor.J
open Go.ChangeShapes Go.WideShapes Go.ChangeAt Go.RowKit Go.Deep

theorem own : ownKnob Tryz.prog.godebug = none := by kernel_rfl
theorem laidOut : laidOutB Tryz.prog = true := by kernel_rfl
theorem gPow : Tryz.prog.globalNamed "internal/strconv.uint64pow10" = some 4 := by kernel_rfl
theorem gPowType : (Tryz.prog.globals[4]?).map (·.type) = some 201 := by kernel_rfl
theorem cellsPow : Tryz.prog.cellsOf 201 = 20 := by kernel_rfl
theorem cellsU64 : Tryz.prog.cellsOf 117 = 1 := by kernel_rfl
def tz64 : List Int := [0, 1, 56, 2, 57, 49, 28, 3, 61, 58, 42, 50, 38, 29, 17, 4, 62, 47, 59, 36, 45, 43, 51, 22, 53, 39, 33, 30, 24, 18, 12, 5, 63, 55, 48, 27, 60, 41, 37, 16, 46, 35, 44, 21, 52, 32, 23, 11, 54, 26, 40, 15, 34, 20, 31, 10, 25, 14, 19, 9, 13, 8, 7, 6]
theorem gTz : Tryz.prog.globalNamed "math/bits.deBruijn64tab" = some 8 := by kernel_rfl
theorem gTzType : (Tryz.prog.globals[8]?).map (·.type) = some 213 := by kernel_rfl
theorem cellsTz : Tryz.prog.cellsOf 213 = 64 := by kernel_rfl
theorem cellsU8 : Tryz.prog.cellsOf 5 = 1 := by kernel_rfl
theorem tab_of {X : World} {a b c : String × DataW Unit} (h : laidMet Tryz.prog [a, ("math/bits.deBruijn64tab", Rows.laid_math_bits_deBruijn64tab), ("internal/strconv.uint64pow10", Rows.laid_internal_strconv_uint64pow10), b, ("domesday/perm.classes", Rows.laid_domesday_perm_classes), c] X) : FTab X := by
  have t1 : Lib.TabIs Tryz.prog X "math/bits.deBruijn64tab" .u8 tz64 := Lib.tabIs_of_head gTz gTzType Tryz.underlying213 Tryz.underlying5 cellsU8 cellsTz h.tail
  have t2 : Lib.TabIs Tryz.prog X "internal/strconv.uint64pow10" .u64 Lib.pow10Tab := Lib.tabIs_of_head gPow gPowType Tryz.underlying201 Tryz.underlying117 cellsU64 cellsPow h.tail.tail
  exact ⟨G.tab_of h.tail.tail.tail, t2, ⟨t1.cell gTz 7 (by decide), t1.cell gTz 15 (by decide)⟩⟩
end Go.Proofs.YtigkdehaepenhaaGreatDoor.J

namespace Go.Proofs.YtigkdehaepenhaaGreatDoor.J
open Go.Proofs.YtigkdehaepenhaaGreatDoor.B
open Go.ChangeShapes Go.WideShapes Go.ChangeAt Go.RowKit Go.Deep

theorem okWide_arr {P : Program} {w : World} {r : Reach} {base : Nat} {t e : TypeId} {n : Nat} {v : Value} (ht : P.underlying t = some (.array n e)) (h : Value.okWide P w r base t v) : ∃ cs, v = .agg cs ∧ cs.size = P.cellsOf t := by
  simp only [Value.okWide, ht] at h
  obtain ⟨cs, h1, h2, _⟩ := h
  exact ⟨cs, h1, h2⟩
theorem cells3S : Tryz.prog.cellsOf 23 = 3 := by kernel_rfl
set_option maxRecDepth 100000 in
theorem three_of {H : Type} {enc : TypeId × Value → H} {W : World} {r : Reach} {b0 base : Nat} {sp : Nat → Bool} {held : Bool} {v : Value} {x : DataW H} {p : List MemPlace}
    (hv : Value.okWide Tryz.prog W r b0 23 v) (h : DataW.Trod enc Tryz.prog W base sp held 23 v x p) :
    ∃ a b c : ByteArray, v = .agg #[.string a, .string b, .string c] ∧ a.size ≤ 9223372036854775807 ∧ b.size ≤ 9223372036854775807 ∧ c.size ≤ 9223372036854775807 := by
  obtain ⟨cs, rfl, hsz⟩ := okWide_arr Tryz.underlying23 hv
  obtain ⟨fuel, h⟩ := h
  obtain ⟨xs, m, _, _, _, hxl, ha⟩ := DataW.trod_array Tryz.underlying23 h
  rw [cells3S] at hsz
  have a0 := ha 0 (by decide)
  have a1 := ha 1 (by decide)
  have a2 := ha 2 (by decide)
  clear ha
  obtain ⟨l⟩ := cs
  match l, hsz, xs, hxl with
  | [c0, c1, c2], _, [y0, y1, y2], _ =>
    simp [Value.cells, V.cellsStr] at a0 a1 a2
    obtain ⟨s0, e0, _, g0⟩ := DataW.trod_string Tryz.underlying9 a0
    obtain ⟨s1, e1, _, g1⟩ := DataW.trod_string Tryz.underlying9 a1
    obtain ⟨s2, e2, _, g2⟩ := DataW.trod_string Tryz.underlying9 a2
    simp at e0 e1 e2
    exact ⟨s0, s1, s2, by rw [e0, e1, e2], V.le_max_of g0, V.le_max_of g1, V.le_max_of g2⟩
theorem cells2S : Tryz.prog.cellsOf 39 = 2 := by kernel_rfl
set_option maxRecDepth 100000 in
theorem twoS_of {H : Type} {enc : TypeId × Value → H} {W : World} {r : Reach} {b0 base : Nat} {sp : Nat → Bool} {held : Bool} {v : Value} {x : DataW H} {p : List MemPlace}
    (hv : Value.okWide Tryz.prog W r b0 39 v) (h : DataW.Trod enc Tryz.prog W base sp held 39 v x p) :
    ∃ a b : ByteArray, v = .agg #[.string a, .string b] ∧ a.size ≤ 9223372036854775807 ∧ b.size ≤ 9223372036854775807 := by
  obtain ⟨cs, rfl, hsz⟩ := okWide_arr Tryz.underlying39 hv
  obtain ⟨fuel, h⟩ := h
  obtain ⟨xs, m, _, _, _, hxl, ha⟩ := DataW.trod_array Tryz.underlying39 h
  rw [cells2S] at hsz
  have a0 := ha 0 (by decide)
  have a1 := ha 1 (by decide)
  clear ha
  obtain ⟨l⟩ := cs
  match l, hsz, xs, hxl with
  | [c0, c1], _, [y0, y1], _ =>
    simp [Value.cells, V.cellsStr] at a0 a1
    obtain ⟨s0, e0, _, g0⟩ := DataW.trod_string Tryz.underlying9 a0
    obtain ⟨s1, e1, _, g1⟩ := DataW.trod_string Tryz.underlying9 a1
    simp at e0 e1
    exact ⟨s0, s1, by rw [e0, e1], V.le_max_of g0, V.le_max_of g1⟩
end Go.Proofs.YtigkdehaepenhaaGreatDoor.J

namespace Go.Proofs.YtigkdehaepenhaaGreatDoor.Q

theorem soft_fun : (fun c => hardC c == false) = (fun c => !hardC c) := by
  funext c
  cases hardC c <;> rfl
theorem hard_fun : (fun c => hardC c == true) = hardC := by
  funext c
  cases hardC c <;> rfl
theorem run_take (h : Bool) (l : Bytes) : l.take (runP h l) = ((chunks l).takeWhile (fun c => hardC c == h)).flatten := by
  have e := run_split h l
  conv => lhs; arg 2; rw [e]
  exact List.take_left
theorem run_drop (h : Bool) (l : Bytes) : l.drop (runP h l) = ((chunks l).dropWhile (fun c => hardC c == h)).flatten := by
  have e := run_split h l
  conv => lhs; arg 2; rw [e]
  exact List.drop_left
theorem run_chunks (h : Bool) (l : Bytes) : chunks (l.drop (runP h l)) = (chunks l).dropWhile (fun c => hardC c == h) := by
  rw [run_drop]
  exact chunks_tail (p := (chunks l).takeWhile (fun c => hardC c == h)) (List.takeWhile_append_dropWhile).symm
theorem run_zero (h : Bool) (l : Bytes) : (chunks l).takeWhile (fun c => hardC c == h) = [] ↔ runP h l = 0 := by
  constructor
  · intro e
    unfold runP
    rw [e]
    rfl
  · intro e
    apply Classical.byContradiction
    intro hn
    have := flat_pos (fun c hc => chunks_chr l c ((List.takeWhile_sublist _).subset hc)) hn
    unfold runP at e
    omega
theorem run_le (h : Bool) (l : Bytes) : runP h l ≤ l.length := by
  have e := congrArg List.length (run_split h l)
  rw [List.length_append] at e
  unfold runP
  omega
theorem run_some {l : Bytes} (hl : l ≠ []) (h0 : runP false l = 0) : 0 < runP true l := by
  have hb := sz_bd l
  by_cases hc : hardC (l.take (sz l)) = true
  · rw [runP_step hl hc]; omega
  · have := runP_step (h := false) hl (by simpa using hc)
    omega
theorem strP_nil : strP [] = [] := by rw [strP]; simp
theorem strP_at {l : Bytes} (hl : l ≠ []) {n1 n2 : Nat} (h1 : runP false l = n1) (h2 : runP true (l.drop n1) = n2) :
    strP (chunks l) = (if n1 = 0 then [] else bt (l.take n1)) ++ ((if n2 = 0 then [] else hardS ((l.drop n1).take n2)) ++ strP (chunks ((l.drop n1).drop n2))) := by
  subst h1; subst h2
  rw [strP, dif_neg (by rw [chunks_step l hl]; simp)]
  rw [run_chunks true, run_take true, run_chunks false, run_take false, hard_fun, soft_fun]
  have e1 : ((chunks l).takeWhile (fun c => !hardC c) = []) = (runP false l = 0) := propext (by rw [← soft_fun]; exact run_zero false l)
  have e2 : (((chunks l).dropWhile (fun c => !hardC c)).takeWhile hardC = []) = (runP true (l.drop (runP false l)) = 0) := propext (by
    rw [← soft_fun, ← run_chunks false]
    have := run_zero true (l.drop (runP false l))
    rw [hard_fun] at this
    exact this)
  simp only [e1, e2]
theorem esc_all_len (l : Bytes) : (l.flatMap esc).length ≤ 4 * l.length := by
  induction l with
  | nil => simp
  | cons b l ih =>
    have := esc_len b
    rw [List.flatMap_cons, List.length_append, List.length_cons]
    omega
theorem hardS_len (l : Bytes) : (hardS l).length ≤ 4 * l.length + 3 := by
  have := esc_all_len l
  unfold hardS
  simp only [List.length_cons, List.length_append, List.length_nil]
  omega
theorem strP_len (l : Bytes) : (strP (chunks l)).length ≤ 7 * l.length := by
  obtain ⟨n, hn⟩ : ∃ n, l.length = n := ⟨_, rfl⟩
  induction n using Nat.strongRecOn generalizing l with
  | _ n ih =>
    by_cases hl : l = []
    · subst hl; rw [chunks_nil, strP_nil]; simp
    · rw [strP_at hl rfl rfl]
      have a1 := run_le false l
      have a2 := run_le true (l.drop (runP false l))
      rw [List.length_drop] at a2
      have a3 : runP false l = 0 → 0 < runP true (l.drop (runP false l)) := fun h0 => by rw [h0, List.drop_zero]; exact run_some hl h0
      have i1 := ih ((l.drop (runP false l)).drop (runP true (l.drop (runP false l)))).length (by
        rw [List.length_drop, List.length_drop]
        omega) _ rfl
      rw [List.length_drop, List.length_drop] at i1
      have b1 := bt_len (l.take (runP false l))
      rw [List.length_take] at b1
      have b2 := hardS_len ((l.drop (runP false l)).take (runP true (l.drop (runP false l))))
      rw [List.length_take, List.length_drop] at b2
      rw [List.length_append, List.length_append]
      split <;> split <;> (try simp only [List.length_nil]) <;> omega
end Go.Proofs.YtigkdehaepenhaaGreatDoor.Q

namespace Go.Proofs.YtigkdehaepenhaaGreatDoor.Q
open Go.RowKit

def StrRel (s : ByteArray) (w : World) (v : Value) (w' : World) : Prop :=
  ∃ (t : ByteArray) (out : Bytes), v = .string t ∧ t.size ≤ s.size ∧ out ++ strP (chunks (L t)) = strP (chunks (L s)) ∧ Bld w w.heap.size out w'
/-- The escapes that have been written. -/
def EscRel (w : World) (t : ByteArray) (out : Bytes) (n : Nat) (v : Value) (w' : World) : Prop :=
  ∃ i : Nat, i ≤ n ∧ v = .int .i64 (i : Int) ∧ Bld w w.heap.size (out ++ ((L t).take i).flatMap esc) w'
theorem esc_next (l : Bytes) (i : Nat) (h : i < l.length) : (l.take (i + 1)).flatMap esc = (l.take i).flatMap esc ++ esc (l[i]) := by
  rw [List.take_succ_eq_append_getElem h, List.flatMap_append]
  simp

set_option maxHeartbeats 4000000 in
set_option maxRecDepth 100000 in
theorem stretches_any (s : ByteArray) (w : World) (hT : Tab w) (hs : s.size ≤ 1000000) :
    Calls Tryz.prog 128 #[.string s] w fun e w' => e = .returned (.string (T (strP (chunks (L s))))) ∧ Below w.heap.size w w' := by
  have HM := Lib.hid (Bld.made w)
  have hsz := strP_len (L s)
  rw [L_len] at hsz
  go_enter Tryz.func128, Tryz.ntmps128
  go_wp2
  go_loopw [0] (StrRel s w) (fun v _ => (textOf v).size)
  case atStart => exact ⟨s, [], rfl, Nat.le_refl _, rfl, HM.out⟩
  case round =>
    obtain ⟨t, out, rfl, hts, hr, hb⟩ := hrel
    have HB := Lib.hid hb
    have HR := Lib.hid hr
    clear hb hr
    by_cases hne : L t = []
    · have he := empty_true hne
      go_wp2_with fail
      refine HB.out.string.mono ?_
      rintro e w2 ⟨rfl, hb2⟩
      go_wp2_with fail
      go_ret
      refine ⟨ret_str ?_, hb2⟩
      rw [← HR.out, hne, chunks_nil, strP_nil, List.append_nil]
    · have he := empty_false hne
      have h0 : 0 < t.size := L_ne.1 hne
      have c1 := run_any t false wr (HB.out.tab hT) (by omega)
      obtain ⟨n1, hn1⟩ : ∃ n, runP false (L t) = n := ⟨_, rfl⟩
      obtain ⟨n2, hn2⟩ : ∃ n, runP true ((L t).drop n1) = n := ⟨_, rfl⟩
      have HS := Lib.hid (strP_at hne hn1 hn2)
      have hl1 : n1 ≤ t.size := by rw [← hn1, ← L_len]; exact run_le _ _
      have hl2 : n2 ≤ t.size - n1 := by
        have := run_le true ((L t).drop n1)
        rw [hn2, List.length_drop, L_len] at this
        exact this
      have h12 : n1 = 0 → 0 < n2 := fun h => by
        rw [h] at hn1
        have := run_some hne hn1
        rw [← hn2, h, List.drop_zero]
        exact this
      have HO : Hid (out.length ≤ 7 * s.size) := Lib.hid (by
        have := congrArg List.length HR.out
        rw [List.length_append] at this
        omega)
      have HO2 : Hid (out.length + (if n1 = 0 then [] else bt ((L t).take n1)).length ≤ 7 * s.size) := Lib.hid (by
        have := congrArg List.length HR.out
        rw [HS.out, List.length_append, List.length_append] at this
        omega)
      rw [hn1] at c1
      have H2 := Lib.hid hn2
      clear hn1 hn2 hne
      go_wp2_with fail
      refine c1.mono ?_
      rintro e w2 ⟨rfl, hb2⟩
      have HB2 := Lib.hid (HB.out.keep hb2)
      clear hb2 c1
      by_cases hz1 : n1 = 0
      · have hz2 := h12 hz1
        have d1 : decide ((0 : Int) < (n1 : Int)) = false := by rw [decide_eq_false_iff_not]; omega
        have LT : Hid (L t = (L t).drop n1) := Lib.hid (by rw [hz1, List.drop_zero])
        have HBa := HB2
        have HOa := HO
        have c2 := run_any t true w2 (HBa.out.tab hT) (by omega)
        rw [show runP true (L t) = n2 by rw [← H2.out, hz1, List.drop_zero]] at c2
        have dz2 : decide ((0 : Int) < (n2 : Int)) = true := by rw [decide_eq_true_eq]; omega
        go_wp2_with fail
        refine c2.mono ?_
        rintro e w5 ⟨rfl, hb5⟩
        have HB5 := Lib.hid (HBa.out.keep hb5)
        clear hb5 c2
        have hq2 : (ByteArray.mk #[36, 39]).size ≤ 1000000000 := by decide
        go_wp2_with fail
        refine (HB5.out.writeString (by have := HOa.out; omega) ⟨#[36, 39]⟩ hq2).mono ?_
        rintro e w6 ⟨⟨v6, rfl⟩, hb6⟩
        have HB6 : Hid (Bld w w.heap.size (out ++ [36, 39]) w6) := Lib.hid hb6
        clear hb6
        have HO6 : Hid ((out ++ [36, 39]).length + 4 * t.size ≤ 100000000) := Lib.hid (by have := HOa.out; rw [List.length_append]; simp only [List.length_cons, List.length_nil]; omega)
        go_wp2_with fail
        go_hide hQ
        go_loopw [27] (EscRel w (t) (out ++ [36, 39]) n2) (fun v _ => n2 - (intOf v).toNat)
        case atStart => exact ⟨0, Nat.zero_le _, rfl, by rw [List.take_zero, List.flatMap_nil, List.append_nil]; exact HB6.out⟩
        case round =>
          obtain ⟨i, hi, rfl, hbi⟩ := hrel
          have HBi := Lib.hid hbi
          clear hbi
          by_cases hlt : i < n2
          · have hit : i < (t).size := by omega
            obtain ⟨c, hc⟩ : ∃ c, (t)[i]'hit = c := ⟨_, rfl⟩
            have HN : Hid (((L (t)).take (i + 1)).flatMap esc = ((L (t)).take i).flatMap esc ++ esc c) := Lib.hid (by rw [esc_next _ i (by rw [L_len]; exact hit), ← get_at _ i hit, hc])
            have cE := writeEscape_any HBi.out (by have := HO6.out; have := esc_all_len ((L (t)).take i); rw [List.length_take, L_len] at this; rw [List.length_append]; omega) c
            obtain ⟨cn, hcn⟩ : ∃ cn, c.toNat = cn := ⟨_, rfl⟩
            rw [hcn] at cE
            go_wp2_with fail
            refine cE.mono ?_
            rintro e w7 ⟨rfl, hb7⟩
            have HB7 := Lib.hid hb7
            clear hb7 cE
            go_wp2_with fail
            go_roundw
            case rel => exact ⟨i + 1, by omega, by go_num, by rw [HN.out, ← List.append_assoc]; exact HB7.out⟩
            case measure => simp [intOf]; omega
          · obtain rfl : i = n2 := by omega
            go_wp2_with fail
            subst hQ
            go_wp2_with fail
            refine (HBi.out.writeByte (by have := HO6.out; have := esc_all_len ((L (t)).take i); rw [List.length_take, L_len] at this; rw [List.length_append]; omega) 39 39 rfl).mono ?_
            rintro e w8 ⟨rfl, hb8⟩
            have HB8 := Lib.hid hb8
            clear hb8
            go_wp2_with fail
            go_roundw
            case rel =>
              refine ⟨(t).extract i (t).size, _, rfl, ?_, ?_, HB8.out⟩
              · have := tail_size (t) i; omega
              · rw [L_from, ← HR.out, HS.out, if_pos hz1, if_neg (by omega), hz1, List.drop_zero]
                simp only [hardS, List.append_assoc, List.cons_append, List.nil_append]
            case measure =>
              show ((t).extract i (t).size).size < t.size
              have := tail_size (t) i; omega
      · have d1 : decide ((0 : Int) < (n1 : Int)) = true := by rw [decide_eq_true_eq]; omega
        have hza : (t.extract 0 n1).size ≤ 1000000 := by rw [← L_len, L_to, List.length_take]; omega
        have LA : Hid (L (t.extract 0 n1) = (L t).take n1) := Lib.hid (L_to t n1)
        go_wp2_with fail
        refine (between_any (t.extract 0 n1) w2 (HB2.out.tab hT) hza).mono ?_
        rintro e w3 ⟨rfl, hb3⟩
        have HB3 := Lib.hid (HB2.out.keep hb3)
        clear hb3
        have hzb : (T (bt (L (t.extract 0 n1)))).size ≤ 1000000000 := by
          have := bt_len (L (t.extract 0 n1))
          rw [T_size]
          rw [L_len] at this
          omega
        go_wp2_with fail
        refine (HB3.out.writeString (by have := HO.out; omega) _ hzb).mono ?_
        rintro e w4 ⟨⟨v4, rfl⟩, hb4⟩
        have HBa : Hid (Bld w w.heap.size (out ++ bt ((L t).take n1)) w4) := Lib.hid (by rw [← LA.out]; exact hb4)
        have HOa : Hid ((out ++ bt ((L t).take n1)).length ≤ 7 * s.size) := Lib.hid (by have := HO2.out; rw [if_neg hz1] at this; rw [List.length_append]; exact this)
        clear hb4
        have hzt := tail_size t n1
        have LT : Hid (L (t.extract n1 t.size) = (L t).drop n1) := Lib.hid (L_from t n1)
        by_cases hz2 : n2 = 0
        · subst hz2
          have c2 := run_any (t.extract n1 t.size) true w4 (HBa.out.tab hT) (by omega)
          rw [LT.out, H2.out] at c2
          go_wp2_with fail
          refine c2.mono ?_
          rintro e w5 ⟨rfl, hb5⟩
          have HB5 := Lib.hid (HBa.out.keep hb5)
          clear hb5 c2
          go_wp2_with fail
          go_roundw
          case rel =>
            refine ⟨t.extract n1 t.size, (out ++ bt ((L t).take n1)), rfl, by omega, ?_, HB5.out⟩
            rw [LT.out, ← HR.out, HS.out, if_neg hz1, if_pos trivial, List.drop_zero, List.nil_append, List.append_assoc]
          case measure =>
            show (t.extract n1 t.size).size < t.size
            omega
        · have hz2p : 0 < n2 := by omega
          have c2 := run_any (t.extract n1 t.size) true w4 (HBa.out.tab hT) (by omega)
          rw [LT.out, H2.out] at c2
          have dz2 : decide ((0 : Int) < (n2 : Int)) = true := by rw [decide_eq_true_eq]; omega
          go_wp2_with fail
          refine c2.mono ?_
          rintro e w5 ⟨rfl, hb5⟩
          have HB5 := Lib.hid (HBa.out.keep hb5)
          clear hb5 c2
          have hq2 : (ByteArray.mk #[36, 39]).size ≤ 1000000000 := by decide
          go_wp2_with fail
          refine (HB5.out.writeString (by have := HOa.out; omega) ⟨#[36, 39]⟩ hq2).mono ?_
          rintro e w6 ⟨⟨v6, rfl⟩, hb6⟩
          have HB6 : Hid (Bld w w.heap.size ((out ++ bt ((L t).take n1)) ++ [36, 39]) w6) := Lib.hid hb6
          clear hb6
          have HO6 : Hid (((out ++ bt ((L t).take n1)) ++ [36, 39]).length + 4 * t.size ≤ 100000000) := Lib.hid (by have := HOa.out; rw [List.length_append]; simp only [List.length_cons, List.length_nil]; omega)
          go_wp2_with fail
          go_hide hQ
          go_loopw [27] (EscRel w (t.extract n1 t.size) ((out ++ bt ((L t).take n1)) ++ [36, 39]) n2) (fun v _ => n2 - (intOf v).toNat)
          case atStart => exact ⟨0, Nat.zero_le _, rfl, by rw [List.take_zero, List.flatMap_nil, List.append_nil]; exact HB6.out⟩
          case round =>
            obtain ⟨i, hi, rfl, hbi⟩ := hrel
            have HBi := Lib.hid hbi
            clear hbi
            by_cases hlt : i < n2
            · have hit : i < (t.extract n1 t.size).size := by omega
              obtain ⟨c, hc⟩ : ∃ c, (t.extract n1 t.size)[i]'hit = c := ⟨_, rfl⟩
              have HN : Hid (((L (t.extract n1 t.size)).take (i + 1)).flatMap esc = ((L (t.extract n1 t.size)).take i).flatMap esc ++ esc c) := Lib.hid (by rw [esc_next _ i (by rw [L_len]; exact hit), ← get_at _ i hit, hc])
              have cE := writeEscape_any HBi.out (by have := HO6.out; have := esc_all_len ((L (t.extract n1 t.size)).take i); rw [List.length_take, L_len] at this; rw [List.length_append]; omega) c
              obtain ⟨cn, hcn⟩ : ∃ cn, c.toNat = cn := ⟨_, rfl⟩
              rw [hcn] at cE
              go_wp2_with fail
              refine cE.mono ?_
              rintro e w7 ⟨rfl, hb7⟩
              have HB7 := Lib.hid hb7
              clear hb7 cE
              go_wp2_with fail
              go_roundw
              case rel => exact ⟨i + 1, by omega, by go_num, by rw [HN.out, ← List.append_assoc]; exact HB7.out⟩
              case measure => simp [intOf]; omega
            · obtain rfl : i = n2 := by omega
              go_wp2_with fail
              subst hQ
              go_wp2_with fail
              refine (HBi.out.writeByte (by have := HO6.out; have := esc_all_len ((L (t.extract n1 t.size)).take i); rw [List.length_take, L_len] at this; rw [List.length_append]; omega) 39 39 rfl).mono ?_
              rintro e w8 ⟨rfl, hb8⟩
              have HB8 := Lib.hid hb8
              clear hb8
              go_wp2_with fail
              go_roundw
              case rel =>
                refine ⟨(t.extract n1 t.size).extract i (t.size - n1), _, rfl, ?_, ?_, HB8.out⟩
                · have := tail_size (t.extract n1 t.size) i; rw [hzt] at this; omega
                · rw [← hzt, L_from, L_from, LT.out, ← HR.out, HS.out, if_neg hz1, if_neg (by omega)]
                  simp only [hardS, List.append_assoc, List.cons_append, List.nil_append]
              case measure =>
                show ((t.extract n1 t.size).extract i (t.size - n1)).size < t.size
                have := tail_size (t.extract n1 t.size) i; rw [hzt] at this; omega
end Go.Proofs.YtigkdehaepenhaaGreatDoor.Q

namespace Go.Proofs.YtigkdehaepenhaaGreatDoor.Q
open Go.RowKit

theorem quoteP_len (style : Int) (l : Bytes) : (quoteP style l).length ≤ 7 * l.length + 2 := by
  have h1 := bare_len l
  have h2 := bt_len l
  have h3 := strP_len l
  have h4 := bsP_len 34 l
  have h5 := bsP_len 32 l
  unfold quoteP
  repeat' split
  all_goals (try simp only [List.length_cons, List.length_append, List.length_nil])
  all_goals omega

set_option maxHeartbeats 2000000 in
set_option maxRecDepth 100000 in
theorem quote_any (style : Int) (s : ByteArray) (w : World) (hT : Tab w) (hs : s.size ≤ 1000000) :
    Calls Tryz.prog 108 #[.int .i64 style, .string s] w fun e w' => e = .returned (.string (T (quoteP style (L s)))) ∧ Below w.heap.size w w' := by
  have c1 := bare_any s w hT hs
  have c2 := between_any s w hT hs
  have c3 := hasHard_any s w hT hs
  by_cases h0 : style = 0
  · subst h0
    have HF : Hid (quoteP 0 (L s) = L s) := Lib.hid rfl
    go_enter Tryz.func108, Tryz.ntmps108
    go_wp2_with fail
    go_ret
    exact ⟨by rw [HF.out]; exact ret_str (T_L s).symm, Below.refl _ _⟩
  · by_cases h1 : style = 1
    · subst h1
      have HF : Hid (quoteP 1 (L s) = bareP (L s)) := Lib.hid rfl
      go_enter Tryz.func108, Tryz.ntmps108
      go_wp2_with fail
      refine c1.mono ?_
      rintro e w2 ⟨rfl, hb⟩
      go_wp2_with fail
      go_ret
      exact ⟨by rw [HF.out]; rfl, hb⟩
    · by_cases h2 : style = 2
      · subst h2
        have HF : Hid (quoteP 2 (L s) = bt (L s)) := Lib.hid rfl
        go_enter Tryz.func108, Tryz.ntmps108
        go_wp2_with fail
        refine c2.mono ?_
        rintro e w2 ⟨rfl, hb⟩
        go_wp2_with fail
        go_ret
        exact ⟨by rw [HF.out]; rfl, hb⟩
      · by_cases h3 : style = 3
        · subst h3
          obtain ⟨p, hp⟩ : ∃ p, hasHard (L s) = p := ⟨_, rfl⟩
          have HF : Hid (quoteP 3 (L s) = if p then strP (chunks (L s)) else bareP (L s)) := Lib.hid (by rw [← hp]; rfl)
          rw [hp] at c3
          clear hp
          cases p with
          | true =>
            go_enter Tryz.func108, Tryz.ntmps108
            go_wp2_with fail
            refine c3.mono ?_
            rintro e w2 ⟨rfl, hb⟩
            go_wp2_with fail
            refine (stretches_any s w2 (hT.keep hb) hs).mono ?_
            rintro e w3 ⟨rfl, hb3⟩
            go_wp2_with fail
            go_ret
            exact ⟨by rw [HF.out]; rfl, below_two hb hb3⟩
          | false =>
            go_enter Tryz.func108, Tryz.ntmps108
            go_wp2_with fail
            refine c3.mono ?_
            rintro e w2 ⟨rfl, hb⟩
            go_wp2_with fail
            refine (bare_any s w2 (hT.keep hb) hs).mono ?_
            rintro e w3 ⟨rfl, hb3⟩
            go_wp2_with fail
            go_ret
            exact ⟨by rw [HF.out]; rfl, below_two hb hb3⟩
        · by_cases h4 : style = 4
          · subst h4
            have c4 := backslashed_any s 34 w hT hs
            have HF : Hid (T (quoteP 4 (L s)) = T ([34] ++ bsP 34 (L s) ++ [34])) := Lib.hid rfl
            have hz := bsP_len 34 (L s)
            rw [L_len] at hz
            generalize bsP 34 (L s) = q at *
            have h34 : (ByteArray.mk #[34]).size = 1 := rfl
            have ha1 : ∀ w : World, (Op.stringOp .add ⟨#[34]⟩ (T q)).run Tryz.prog w = .ok (.string (⟨#[34]⟩ ++ T q)) w := fun w => run_string_add_sum w _ _ (by rw [h34, T_size]; omega)
            have ha2 : ∀ w : World, (Op.stringOp .add (⟨#[34]⟩ ++ T q) ⟨#[34]⟩).run Tryz.prog w = .ok (.string (⟨#[34]⟩ ++ T q ++ ⟨#[34]⟩)) w := fun w => run_string_add_sum w _ _ (by rw [ByteArray.size_append, h34, T_size]; omega)
            go_enter Tryz.func108, Tryz.ntmps108
            go_wp2_with fail
            refine c4.mono ?_
            rintro e w2 ⟨rfl, hb⟩
            go_wp2_with fail
            go_ret
            refine ⟨?_, hb⟩
            rw [HF.out]
            exact ret_str (L_ext (by rw [L_add, L_add]; rfl))
          · by_cases h5 : style = 5
            · subst h5
              have c5 := backslashed_any s 32 w hT hs
              have HF : Hid (quoteP 5 (L s) = bsP 32 (L s)) := Lib.hid rfl
              generalize bsP 32 (L s) = q at *
              go_enter Tryz.func108, Tryz.ntmps108
              go_wp2_with fail
              refine c5.mono ?_
              rintro e w2 ⟨rfl, hb⟩
              go_wp2_with fail
              go_ret
              exact ⟨by rw [HF.out]; rfl, hb⟩
            · have HF : Hid (quoteP style (L s) = []) := Lib.hid (by unfold quoteP; rw [if_neg h0, if_neg h1, if_neg h2, if_neg h3, if_neg h4, if_neg h5])
              have q0 : (style == 0) = false := beq_eq_false_iff_ne.2 h0
              have q1 : (style == 1) = false := beq_eq_false_iff_ne.2 h1
              have q2 : (style == 2) = false := beq_eq_false_iff_ne.2 h2
              have q3 : (style == 3) = false := beq_eq_false_iff_ne.2 h3
              have q4 : (style == 4) = false := beq_eq_false_iff_ne.2 h4
              have q5 : (style == 5) = false := beq_eq_false_iff_ne.2 h5
              go_enter Tryz.func108, Tryz.ntmps108
              go_wp2_with fail
              go_ret
              exact ⟨by rw [HF.out]; rfl, Below.refl _ _⟩

theorem awake_text : quoteP 3 [97, 32, 98, 10] = [39, 97, 32, 98, 39, 36, 39, 92, 110, 39] := by
  have hc : chunks [97, 32, 98, 10] = [[97], [32], [98], [10]] := by
    rw [chunks_ascii _ _ (by decide), chunks_ascii _ _ (by decide), chunks_ascii _ _ (by decide), chunks_ascii _ _ (by decide), chunks_nil]
  unfold quoteP hasHard
  rw [hc]
  have : strP [[97], [32], [98], [10]] = [39, 97, 32, 98, 39, 36, 39, 92, 110, 39] := by
    rw [strP]
    have e1 : ([[97], [32], [98], [10]] : List Bytes).takeWhile (fun c => !hardC c) = [[97], [32], [98]] := by decide
    have e2 : ([[97], [32], [98], [10]] : List Bytes).dropWhile (fun c => !hardC c) = [[10]] := by decide
    have e3 : ([[10]] : List Bytes).takeWhile hardC = [[10]] := by decide
    have e4 : ([[10]] : List Bytes).dropWhile hardC = [] := by decide
    rw [e1, e2, e3, e4, strP_nil]
    decide
  rw [this]
  rfl

end Go.Proofs.YtigkdehaepenhaaGreatDoor.Q

namespace Go.Proofs.YtigkdehaepenhaaGreatDoor.JQ
open Go.ChangeShapes Go.WideShapes Go.ChangeAt Go.RowKit Go.Deep

theorem own : ownKnob Tryz.prog.godebug = none := J.own
theorem laidOut : laidOutB Tryz.prog = true := J.laidOut
structure QTab (w : World) : Prop where
  f : J.FTab w
  q : Q.Tab w
theorem tab_of {X : World} (h : laidMet Tryz.prog [("math/bits.deBruijn32tab", Rows.laid_math_bits_deBruijn32tab), ("math/bits.deBruijn64tab", Rows.laid_math_bits_deBruijn64tab), ("internal/strconv.uint64pow10", Rows.laid_internal_strconv_uint64pow10), ("unicode/utf8.acceptRanges", Rows.laid_unicode_utf8_acceptRanges), ("domesday/perm.classes", Rows.laid_domesday_perm_classes), ("unicode/utf8.first", Rows.laid_unicode_utf8_first)] X) (hsh : X.ShapedOpen Tryz.prog) : QTab X := by
  refine ⟨J.tab_of h, utf8Tabs_of_reads { Tryz.lays197 with } Q.u8Extra ?_ ?_, Tryz.laysM155.s1_3 X hsh⟩
  · rw [← Q.first_is]; exact Lib.laidMet.reads h (by simp)
  · rw [← Q.accept_is]; exact Lib.laidMet.reads h (by simp)
/-- A name in the quotes in which a directive writes it. -/
def quoB (s : ByteArray) : ByteArray := Q.T (Q.quoteP 1 (Q.L s))
theorem quoB_size (s : ByteArray) : (quoB s).size ≤ 7 * s.size + 2 := by
  have := Q.quoteP_len 1 (Q.L s)
  rw [Q.L_len] at this
  unfold quoB
  rw [← Q.L_len]
  exact this
theorem qj {w : World} (ht : Q.Tab w) : J.QJ quoB w := ⟨fun s X hs hX => Q.quote_any 1 s X (ht.keep hX) (by omega), fun s _ => quoB_size s⟩
end Go.Proofs.YtigkdehaepenhaaGreatDoor.JQ

namespace Go.Proofs.YtigkdehaepenhaaGreatDoor.Q

/-- The byte of the escape with which a text begins, and how long it is. -/
def rdE (l : Bytes) : UInt8 × Nat :=
  if nth l 0 = 92 ∧ nth l 1 = 110 then (10, 2)
  else if nth l 0 = 92 ∧ nth l 1 = 116 then (9, 2)
  else if nth l 0 = 92 ∧ 48 ≤ nth l 1 ∧ nth l 1 ≤ 51 ∧ 48 ≤ nth l 2 ∧ nth l 2 ≤ 55 ∧ 48 ≤ nth l 3 ∧ nth l 3 ≤ 55 then (((nth l 1 - 48) * 64 + (nth l 2 - 48) * 8 + (nth l 3 - 48)).toUInt8, 4)
  else (0, 0)
theorem nth_beyond {l : Bytes} {i : Nat} (h : l.length ≤ i) : nth l i = 0 := by
  unfold nth
  rw [List.getD_eq_getElem?_getD, List.getElem?_eq_none h]
  rfl
theorem nth_in {l : Bytes} {i : Nat} (h : nth l i ≠ 0) : i < l.length := by
  apply Classical.byContradiction
  intro hn
  exact h (nth_beyond (by omega))
theorem rdE_le (l : Bytes) : (rdE l).2 ≤ l.length := by
  unfold rdE
  repeat' split
  · rename_i h; have := nth_in (l := l) (i := 1) (by omega); dsimp only; omega
  · rename_i h; have := nth_in (l := l) (i := 1) (by omega); dsimp only; omega
  · rename_i h; have := nth_in (l := l) (i := 3) (by omega); dsimp only; omega
  · simp

/-- What a shell reads: state 0 outside, 1 between quotes, 2 among escapes. -/
def sh (st : Nat) (l : Bytes) : Option Bytes :=
  if h : l = [] then (if st = 0 then some [] else none)
  else if st = 0 then
    if nth l 0 = 39 then sh 1 (l.drop 1)
    else if nth l 0 = 92 ∧ nth l 1 = 39 then (sh 0 (l.drop 2)).map (39 :: ·)
    else if nth l 0 = 36 ∧ nth l 1 = 39 then sh 2 (l.drop 2)
    else if kc (l.take (sz l)) = 0 then (sh 0 (l.drop (sz l))).map (l.take (sz l) ++ ·)
    else none
  else if st = 1 then
    if nth l 0 = 39 then sh 0 (l.drop 1) else (sh 1 (l.drop 1)).map (l.headD 0 :: ·)
  else
    if nth l 0 = 39 then sh 0 (l.drop 1)
    else if h2 : (rdE l).2 = 0 then none
    else (sh 2 (l.drop (rdE l).2)).map ((rdE l).1 :: ·)
termination_by l.length
decreasing_by
  all_goals
    have : 0 < l.length := List.length_pos_iff.2 h
    have := sz_bd l
    rw [List.length_drop]
    omega
def shP (l : Bytes) : Option Bytes := if l = [] then none else sh 0 l
/-- What C reads behind the first quote. -/
def cIn (l : Bytes) : Option Bytes :=
  if h : l = [] then none
  else if nth l 0 = 34 then (if l.drop 1 = [] then some [] else none)
  else if nth l 0 = 92 then
    if nth l 1 = 34 ∨ nth l 1 = 92 then (cIn (l.drop 2)).map ((l.drop 1).headD 0 :: ·)
    else if h2 : (rdE l).2 = 0 then none
    else (cIn (l.drop (rdE l).2)).map ((rdE l).1 :: ·)
  else (cIn (l.drop 1)).map (l.headD 0 :: ·)
termination_by l.length
decreasing_by
  all_goals
    have : 0 < l.length := List.length_pos_iff.2 h
    rw [List.length_drop]
    omega
def cP (l : Bytes) : Option Bytes := if nth l 0 = 34 then cIn (l.drop 1) else none

theorem nth_cons (b : UInt8) (l : Bytes) : nth (b :: l) 0 = b.toNat := rfl
theorem nth_cons1 (b : UInt8) (l : Bytes) (i : Nat) : nth (b :: l) (i + 1) = nth l i := rfl
theorem toNat_eq {b : UInt8} {n : Nat} (hn : n < 256) : b.toNat = n ↔ b = n.toUInt8 := by
  rw [← UInt8.toNat_inj]
  have : n.toUInt8.toNat = n := by simp [Nat.mod_eq_of_lt hn]
  rw [this]

theorem sh_nil (st : Nat) : sh st [] = if st = 0 then some [] else none := by rw [sh]; simp
theorem sh0_q {l : Bytes} (h : nth l 0 = 39) : sh 0 l = sh 1 (l.drop 1) := by
  have hl : l ≠ [] := by rintro rfl; exact absurd h (by decide)
  rw [sh, dif_neg hl, if_pos rfl, if_pos h]
theorem sh0_b {l : Bytes} (h : nth l 0 = 92) (h1 : nth l 1 = 39) : sh 0 l = (sh 0 (l.drop 2)).map (39 :: ·) := by
  have hl : l ≠ [] := by rintro rfl; exact absurd h (by decide)
  rw [sh, dif_neg hl, if_pos rfl, if_neg (by omega), if_pos ⟨h, h1⟩]
theorem sh0_d {l : Bytes} (h : nth l 0 = 36) (h1 : nth l 1 = 39) : sh 0 l = sh 2 (l.drop 2) := by
  have hl : l ≠ [] := by rintro rfl; exact absurd h (by decide)
  rw [sh, dif_neg hl, if_pos rfl, if_neg (by omega), if_neg (by omega), if_pos ⟨h, h1⟩]
theorem sh0_p {l : Bytes} (hl : l ≠ []) (h : nth l 0 ≠ 39) (h1 : ¬ (nth l 0 = 92 ∧ nth l 1 = 39)) (h2 : ¬ (nth l 0 = 36 ∧ nth l 1 = 39)) (hk : kc (l.take (sz l)) = 0) :
    sh 0 l = (sh 0 (l.drop (sz l))).map (l.take (sz l) ++ ·) := by
  rw [sh, dif_neg hl, if_pos rfl, if_neg h, if_neg h1, if_neg h2, if_pos hk]
theorem sh0_x {l : Bytes} (hl : l ≠ []) (h : nth l 0 ≠ 39) (h1 : ¬ (nth l 0 = 92 ∧ nth l 1 = 39)) (h2 : ¬ (nth l 0 = 36 ∧ nth l 1 = 39)) (hk : kc (l.take (sz l)) ≠ 0) :
    sh 0 l = none := by
  rw [sh, dif_neg hl, if_pos rfl, if_neg h, if_neg h1, if_neg h2, if_neg hk]
theorem sh1_q {l : Bytes} (h : nth l 0 = 39) : sh 1 l = sh 0 (l.drop 1) := by
  have hl : l ≠ [] := by rintro rfl; exact absurd h (by decide)
  rw [sh, dif_neg hl, if_neg (by decide), if_pos rfl, if_pos h]
theorem sh1_c {l : Bytes} (hl : l ≠ []) (h : nth l 0 ≠ 39) : sh 1 l = (sh 1 (l.drop 1)).map (l.headD 0 :: ·) := by
  rw [sh, dif_neg hl, if_neg (by decide), if_pos rfl, if_neg h]
theorem sh2_q {l : Bytes} (h : nth l 0 = 39) : sh 2 l = sh 0 (l.drop 1) := by
  have hl : l ≠ [] := by rintro rfl; exact absurd h (by decide)
  rw [sh, dif_neg hl, if_neg (by decide), if_neg (by decide), if_pos h]
theorem sh2_e {l : Bytes} (hl : l ≠ []) (h : nth l 0 ≠ 39) (h2 : (rdE l).2 ≠ 0) : sh 2 l = (sh 2 (l.drop (rdE l).2)).map ((rdE l).1 :: ·) := by
  rw [sh, dif_neg hl, if_neg (by decide), if_neg (by decide), if_neg h, dif_neg h2]
theorem sh2_x {l : Bytes} (h : nth l 0 ≠ 39) (h2 : (rdE l).2 = 0) : sh 2 l = none := by
  by_cases hl : l = []
  · subst hl; rw [sh_nil]; rfl
  · rw [sh, dif_neg hl, if_neg (by decide), if_neg (by decide), if_neg h, dif_pos h2]

theorem sh1_qb (l r : Bytes) : sh 1 (l.flatMap qb ++ 39 :: r) = (sh 0 r).map (l ++ ·) := by
  induction l with
  | nil =>
    rw [List.flatMap_nil, List.nil_append, sh1_q rfl]
    show sh 0 r = _
    cases sh 0 r <;> rfl
  | cons b l ih =>
    rw [List.flatMap_cons, List.append_assoc]
    by_cases hb : b = 39
    · subst hb
      show sh 1 (39 :: 92 :: 39 :: 39 :: (l.flatMap qb ++ 39 :: r)) = _
      rw [sh1_q rfl]
      show sh 0 (92 :: 39 :: 39 :: (l.flatMap qb ++ 39 :: r)) = _
      rw [sh0_b rfl rfl]
      show (sh 0 (39 :: (l.flatMap qb ++ 39 :: r))).map _ = _
      rw [sh0_q rfl]
      show (sh 1 (l.flatMap qb ++ 39 :: r)).map _ = _
      rw [ih, Option.map_map]
      rfl
    · have e : qb b = [b] := by unfold qb; rw [if_neg hb]
      rw [e]
      show sh 1 (b :: (l.flatMap qb ++ 39 :: r)) = _
      rw [sh1_c (by simp) (by rw [nth_cons]; exact fun h => hb ((toNat_eq (by decide)).1 h))]
      show (sh 1 (l.flatMap qb ++ 39 :: r)).map _ = _
      rw [ih, Option.map_map]
      rfl
theorem sh0_bt (l r : Bytes) : sh 0 (bt l ++ r) = (sh 0 r).map (l ++ ·) := by
  unfold bt
  rw [List.cons_append, sh0_q rfl]
  show sh 1 (l.flatMap qb ++ [39] ++ r) = _
  rw [List.append_assoc]
  exact sh1_qb l r
theorem rdE_esc (b : UInt8) (r : Bytes) : rdE (esc b ++ r) = (b, (esc b).length) := by
  by_cases h10 : b = 10
  · subst h10; rfl
  · by_cases h9 : b = 9
    · subst h9; rfl
    · have e : esc b = [92, 48 + b / 64, 48 + b / 8 % 8, 48 + b % 8] := by unfold esc; rw [if_neg h10, if_neg h9]
      have hb := b.toNat_lt
      have d1 : (48 + b / 64 : UInt8).toNat = 48 + b.toNat / 64 := by
        rw [UInt8.toNat_add, UInt8.toNat_div]; show (48 + b.toNat / 64) % 256 = _; omega
      have d2 : (48 + b / 8 % 8 : UInt8).toNat = 48 + b.toNat / 8 % 8 := by
        rw [UInt8.toNat_add, UInt8.toNat_mod, UInt8.toNat_div]; show (48 + b.toNat / 8 % 8) % 256 = _; omega
      have d3 : (48 + b % 8 : UInt8).toNat = 48 + b.toNat % 8 := by
        rw [UInt8.toNat_add, UInt8.toNat_mod]; show (48 + b.toNat % 8) % 256 = _; omega
      rw [e]
      show rdE (92 :: (48 + b / 64) :: (48 + b / 8 % 8) :: (48 + b % 8) :: r) = _
      have n0 : nth (92 :: (48 + b / 64) :: (48 + b / 8 % 8) :: (48 + b % 8) :: r) 0 = 92 := rfl
      have n1 : nth (92 :: (48 + b / 64) :: (48 + b / 8 % 8) :: (48 + b % 8) :: r) 1 = 48 + b.toNat / 64 := d1
      have n2 : nth (92 :: (48 + b / 64) :: (48 + b / 8 % 8) :: (48 + b % 8) :: r) 2 = 48 + b.toNat / 8 % 8 := d2
      have n3 : nth (92 :: (48 + b / 64) :: (48 + b / 8 % 8) :: (48 + b % 8) :: r) 3 = 48 + b.toNat % 8 := d3
      unfold rdE
      rw [n0, n1, n2, n3, if_neg (by omega), if_neg (by omega), if_pos (by omega)]
      have : (48 + b.toNat / 64 - 48) * 64 + (48 + b.toNat / 8 % 8 - 48) * 8 + (48 + b.toNat % 8 - 48) = b.toNat := by omega
      rw [this]
      simp
theorem esc_ne (b : UInt8) : ∃ x y r, esc b = 92 :: x :: r ∧ y = x.toNat ∧ y ≠ 34 ∧ y ≠ 92 ∧ y ≠ 39 := by
  unfold esc
  split
  · exact ⟨110, 110, [], rfl, rfl, by decide, by decide, by decide⟩
  · split
    · exact ⟨116, 116, [], rfl, rfl, by decide, by decide, by decide⟩
    · have hb := b.toNat_lt
      have d1 : (48 + b / 64 : UInt8).toNat = 48 + b.toNat / 64 := by
        rw [UInt8.toNat_add, UInt8.toNat_div]; show (48 + b.toNat / 64) % 256 = _; omega
      exact ⟨_, _, _, rfl, d1.symm, by omega, by omega, by omega⟩
theorem sh2_esc (l r : Bytes) : sh 2 (l.flatMap esc ++ 39 :: r) = (sh 0 r).map (l ++ ·) := by
  induction l with
  | nil =>
    rw [List.flatMap_nil, List.nil_append, sh2_q rfl]
    show sh 0 r = _
    cases sh 0 r <;> rfl
  | cons b l ih =>
    rw [List.flatMap_cons, List.append_assoc]
    obtain ⟨x, y, q, he, _⟩ := esc_ne b
    have hr := rdE_esc b (l.flatMap esc ++ 39 :: r)
    rw [sh2_e (by rw [he]; simp) (by rw [he]; show (92 : UInt8).toNat ≠ 39; decide) (by rw [hr, he]; simp), hr]
    dsimp only
    rw [List.drop_left, ih, Option.map_map]
    rfl
theorem sh0_hardS (l r : Bytes) : sh 0 (hardS l ++ r) = (sh 0 r).map (l ++ ·) := by
  unfold hardS
  rw [List.cons_append, List.cons_append, sh0_d rfl rfl]
  show sh 2 (l.flatMap esc ++ [39] ++ r) = _
  rw [List.append_assoc]
  exact sh2_esc l r
theorem back_str (l : Bytes) : sh 0 (strP (chunks l)) = some l := by
  obtain ⟨n, hn⟩ : ∃ n, l.length = n := ⟨_, rfl⟩
  induction n using Nat.strongRecOn generalizing l with
  | _ n ih =>
    by_cases hl : l = []
    · subst hl; rw [chunks_nil, strP_nil, sh_nil]; rfl
    · obtain ⟨n1, h1⟩ : ∃ n1, runP false l = n1 := ⟨_, rfl⟩
      obtain ⟨n2, h2⟩ : ∃ n2, runP true (l.drop n1) = n2 := ⟨_, rfl⟩
      have a3 : n1 = 0 → 0 < n2 := fun h0 => by rw [← h2, h0, List.drop_zero]; exact run_some hl (by rw [h1, h0])
      have h0 : 0 < l.length := List.length_pos_iff.2 hl
      rw [strP_at hl h1 h2]
      have i1 := ih _ (by rw [← hn, List.length_drop, List.length_drop]; omega) ((l.drop n1).drop n2) rfl
      have e2 : sh 0 ((if n2 = 0 then [] else hardS ((l.drop n1).take n2)) ++ strP (chunks ((l.drop n1).drop n2))) = some (l.drop n1) := by
        by_cases hz : n2 = 0
        · rw [if_pos hz, List.nil_append, i1, hz, List.drop_zero]
        · rw [if_neg hz, sh0_hardS, i1]
          exact congrArg some (List.take_append_drop _ _)
      by_cases hz : n1 = 0
      · rw [if_pos hz, List.nil_append, e2, hz, List.drop_zero]
      · rw [if_neg hz, sh0_bt, e2]
        exact congrArg some (List.take_append_drop _ _)
theorem plainB_no {n : Nat} (h : plainB n = true) : n ≠ 39 ∧ n ≠ 92 ∧ n ≠ 36 ∧ n ≠ 34 := by
  refine ⟨?_, ?_, ?_, ?_⟩ <;> (rintro rfl; exact absurd h (by decide))
theorem kb_zero {n : Nat} (h : kb n = 0) : plainB n = true := by
  unfold kb at h
  split at h
  · cases h
  · split at h
    · assumption
    · cases h
/-- A plain character begins with none of these. -/
theorem plain_no {l : Bytes} (hl : l ≠ []) (h : kc (l.take (sz l)) = 0) : nth l 0 ≠ 39 ∧ nth l 0 ≠ 92 ∧ nth l 0 ≠ 36 := by
  by_cases h1 : 1 < sz l
  · have := multi_high h1 0 (by omega)
    omega
  · have hs : sz l = 1 := by have := sz_bd l; omega
    rw [hs] at h
    cases l with
    | nil => exact absurd rfl hl
    | cons b r =>
      have := plainB_no (kb_zero (n := b.toNat) h)
      exact ⟨this.1, this.2.1, this.2.2.1⟩
theorem back_plain (l : Bytes) : allPlain l = true → sh 0 l = some l := by
  refine by_drop (P := fun l => allPlain l = true → sh 0 l = some l) ?_ ?_ l
  · intro _; rw [sh_nil]; rfl
  · intro l hl ih h
    rw [allPlain_step hl, Bool.and_eq_true] at h
    have hk := beq_iff_eq.1 h.1
    obtain ⟨p1, p2, p3⟩ := plain_no hl hk
    rw [sh0_p hl p1 (fun x => p2 x.1) (fun x => p3 x.1) hk, ih h.2]
    exact congrArg some (List.take_append_drop _ _)
theorem bt_ne (l : Bytes) : bt l ≠ [] := by unfold bt; simp
theorem back2 (l : Bytes) : shP (quoteP 2 l) = some l := by
  show shP (bt l) = _
  unfold shP
  rw [if_neg (bt_ne l)]
  have := sh0_bt l []
  rw [List.append_nil, sh_nil] at this
  rw [this]
  simp
theorem back_bare (l : Bytes) : shP (bareP l) = some l := by
  unfold bareP
  split
  · rename_i h
    unfold shP
    rw [if_neg h.1]
    exact back_plain l h.2
  · exact back2 l
theorem back1 (l : Bytes) : shP (quoteP 1 l) = some l := back_bare l
theorem back3 (l : Bytes) : shP (quoteP 3 l) = some l := by
  show shP (if hasHard l then strP (chunks l) else bareP l) = _
  split
  · rename_i h
    have hl : l ≠ [] := by rintro rfl; rw [hasHard, chunks_nil] at h; cases h
    have e := back_str l
    unfold shP
    rw [if_neg, e]
    intro h0
    rw [h0, sh_nil] at e
    exact hl (by injection e with e; exact e.symm)
  · exact back_bare l

theorem cIn_all {c : Bytes} (hc : ∀ b ∈ c, b.toNat ≠ 34 ∧ b.toNat ≠ 92) (r : Bytes) : cIn (c ++ r) = (cIn r).map (c ++ ·) := by
  induction c with
  | nil => rw [List.nil_append]; cases cIn r <;> rfl
  | cons b c ih =>
    have hb := hc b (by simp)
    rw [List.cons_append, cIn, dif_neg (by simp), if_neg (by rw [nth_cons]; exact hb.1), if_neg (by rw [nth_cons]; exact hb.2)]
    show (cIn (c ++ r)).map _ = _
    rw [ih (fun x hx => hc x (by simp [hx])), Option.map_map]
    rfl
theorem cIn_esc (b : UInt8) (r : Bytes) : cIn (esc b ++ r) = (cIn r).map (b :: ·) := by
  obtain ⟨x, y, q, he, hy, n1, n2, _⟩ := esc_ne b
  have hr := rdE_esc b r
  have hne : esc b ++ r ≠ [] := by rw [he]; simp
  have e0 : nth (esc b ++ r) 0 = 92 := by rw [he]; rfl
  have e1 : nth (esc b ++ r) 1 = y := by rw [he, hy]; rfl
  rw [cIn, dif_neg hne, if_neg (by omega), if_pos e0, if_neg (by omega), dif_neg (by rw [hr, he]; simp), hr]
  dsimp only
  rw [List.drop_left]
theorem cIn_bsC {c : Bytes} (hc : Chr c) (r : Bytes) : cIn (bsC 34 c ++ r) = (cIn r).map (c ++ ·) := by
  rcases hc with ⟨b, rfl⟩ | ⟨h2, _, hi⟩
  · by_cases hh : hardC [b] = true
    · have e : bsC 34 [b] = esc b := by simp only [bsC, hh, if_true]
      rw [e]
      exact cIn_esc b r
    · by_cases hs : b = 92 ∨ b = 34
      · have e : bsC 34 [b] = [92, b] := by simp only [bsC]; rw [if_neg hh, if_pos hs]
        rw [e]
        show cIn (92 :: b :: r) = _
        have e1 : nth (92 :: b :: r) 1 = b.toNat := rfl
        have e2 : b.toNat = 34 ∨ b.toNat = 92 := by rcases hs with rfl | rfl <;> decide
        rw [cIn, dif_neg (by simp), if_neg (by rw [nth_cons]; decide), if_pos (show nth (92 :: b :: r) 0 = 92 from rfl), if_pos (by rw [e1]; exact e2)]
        rfl
      · have e : bsC 34 [b] = [b] := by simp only [bsC]; rw [if_neg hh, if_neg hs]
        rw [e]
        refine cIn_all ?_ r
        intro x hx
        rw [List.mem_singleton] at hx
        subst hx
        exact ⟨fun h => hs (.inr ((toNat_eq (by decide)).1 h)), fun h => hs (.inl ((toNat_eq (by decide)).1 h))⟩
  · match c, h2 with
    | b :: c', h2 =>
      have hh : hardC (b :: c') = false := by unfold hardC; rw [kc_multi h2]; rfl
      have hb := hi b (by simp)
      have e : bsC 34 (b :: c') = b :: c' := by
        simp only [bsC]
        rw [hh, if_neg (by decide), if_neg]
        rintro (rfl | rfl)
        · exact absurd hb (by decide)
        · exact absurd hb (by decide)
      rw [e]
      exact cIn_all (fun x hx => by have := hi x hx; omega) r
theorem back_c (cs : List Bytes) (hc : ∀ c ∈ cs, Chr c) : cIn (cs.flatMap (bsC 34) ++ [34]) = some cs.flatten := by
  induction cs with
  | nil => rw [List.flatMap_nil, List.nil_append, cIn]; simp [nth_cons]
  | cons c cs ih =>
    rw [List.flatMap_cons, List.append_assoc, cIn_bsC (hc c (by simp)), ih (fun x hx => hc x (by simp [hx]))]
    rfl
theorem back4 (l : Bytes) : cP (quoteP 4 l) = some l := by
  show cP (34 :: (bsP 34 l ++ [34])) = _
  unfold cP
  rw [if_pos (show nth (34 :: (bsP 34 l ++ [34])) 0 = 34 from rfl)]
  show cIn (bsP 34 l ++ [34]) = _
  unfold bsP
  rw [back_c _ (chunks_chr l), chunks_flat]
/-- Quoted alike, the same. -/
theorem quote_inj (style : Int) (h1 : 1 ≤ style) (h4 : style ≤ 4) (a b : Bytes) (h : quoteP style a = quoteP style b) : a = b := by
  have : style = 1 ∨ style = 2 ∨ style = 3 ∨ style = 4 := by omega
  rcases this with rfl | rfl | rfl | rfl
  · exact Option.some.inj ((back1 a).symm.trans ((congrArg shP h).trans (back1 b)))
  · exact Option.some.inj ((back2 a).symm.trans ((congrArg shP h).trans (back2 b)))
  · exact Option.some.inj ((back3 a).symm.trans ((congrArg shP h).trans (back3 b)))
  · exact Option.some.inj ((back4 a).symm.trans ((congrArg cP h).trans (back4 b)))
end Go.Proofs.YtigkdehaepenhaaGreatDoor.Q

namespace Go.Proofs.YtigkdehaepenhaaGreatDoor.Q
open Go.RowKit

theorem pre1 (l : Bytes) (a : UInt8) (ha : a.toNat ≠ 0) : Lib.hasPrefix l [a] = decide (nth l 0 = a.toNat) := by
  unfold Lib.hasPrefix
  cases l with
  | nil =>
    have : nth [] 0 = 0 := rfl
    rw [this, decide_eq_false (Ne.symm ha)]
    rfl
  | cons b r =>
    rw [nth_cons]
    by_cases h : b = a
    · subst h; simp [List.isPrefixOf]
    · have : b.toNat ≠ a.toNat := fun e => h (UInt8.toNat_inj.1 e)
      rw [decide_eq_false this]
      simp [List.isPrefixOf, Ne.symm h]
theorem pre2 (l : Bytes) (a b : UInt8) (ha : a.toNat ≠ 0) (hb : b.toNat ≠ 0) : Lib.hasPrefix l [a, b] = decide (nth l 0 = a.toNat ∧ nth l 1 = b.toNat) := by
  cases l with
  | nil =>
    have : nth [] 0 = 0 := rfl
    rw [this, decide_eq_false (fun e => (Ne.symm ha) e.1)]
    rfl
  | cons c r =>
    have h1 := pre1 r b hb
    unfold Lib.hasPrefix at h1 ⊢
    rw [nth_cons, nth_cons1, List.isPrefixOf, h1]
    by_cases h : c = a
    · subst h; simp
    · have : c.toNat ≠ a.toNat := fun e => h (UInt8.toNat_inj.1 e)
      rw [beq_eq_false_iff_ne.2 (Ne.symm h)]
      exact (decide_eq_false (fun e => this e.1)).symm
theorem has2 (s : ByteArray) (a b : UInt8) (w : World) (ha : a.toNat ≠ 0) (hb : b.toNat ≠ 0) (p : Bool) (hp : decide (nth (L s) 0 = a.toNat ∧ nth (L s) 1 = b.toNat) = p) :
    Calls Tryz.prog 135 #[.string s, .string ⟨#[a, b]⟩] w fun e w' => e = .returned (.bool p) ∧ w' = w := by
  refine (Tryz.strings_HasPrefix s ⟨#[a, b]⟩ w).mono ?_
  rintro e w' ⟨rfl, rfl⟩
  refine ⟨ret_bool ?_, rfl⟩
  rw [← hp]
  exact pre2 (L s) a b ha hb
theorem has1 (s : ByteArray) (a : UInt8) (w : World) (ha : a.toNat ≠ 0) (p : Bool) (hp : decide (nth (L s) 0 = a.toNat) = p) :
    Calls Tryz.prog 135 #[.string s, .string ⟨#[a]⟩] w fun e w' => e = .returned (.bool p) ∧ w' = w := by
  refine (Tryz.strings_HasPrefix s ⟨#[a]⟩ w).mono ?_
  rintro e w' ⟨rfl, rfl⟩
  refine ⟨ret_bool ?_, rfl⟩
  rw [← hp]
  exact pre1 (L s) a ha
theorem get_nth' (s : ByteArray) (i : Nat) (h : i < s.size) : (s[i]'h).toNat = nth (L s) i := by
  rw [get_at]
  unfold nth
  rw [List.getD_eq_getElem?_getD, List.getElem?_eq_getElem (by rw [L_len]; exact h)]
  rfl

/-- The digits' number so far. -/
def octV (l : Bytes) : Nat → Nat
  | 0 => 0
  | 1 => 0
  | k + 2 => octV l (k + 1) * 8 + (nth l (k + 1) - 48)
def OctRel (l : Bytes) (b i : Value) : Prop := ∃ k : Nat, 1 ≤ k ∧ k ≤ 4 ∧ i = .int .i64 (k : Int) ∧ (∀ j, 1 ≤ j → j < k → 48 ≤ nth l j ∧ nth l j ≤ 55) ∧ b = .int .u8 (octV l k : Int)
theorem oct_bd (l : Bytes) (h1 : nth l 1 ≤ 51) (k : Nat) (hk : k ≤ 3) (hd : ∀ j, 1 ≤ j → j < k → 48 ≤ nth l j ∧ nth l j ≤ 55) : octV l k ≤ 31 := by
  match k, hk with
  | 0, _ => simp [octV]
  | 1, _ => simp [octV]
  | 2, _ => simp only [octV, Nat.zero_add]; omega
  | 3, _ => have := hd 2 (by omega) (by omega); simp only [octV, Nat.zero_add, Nat.reduceAdd]; omega
theorem ret_pair {a b : Int} {c d : Int} (h1 : a = b) (h2 : c = d) : Ending.returned (.tuple #[.int .u8 a, .int .i64 c]) = .returned (.tuple #[.int .u8 b, .int .i64 d]) := by rw [h1, h2]
theorem or_oct (a d : Nat) (ha : a ≤ 31) (hd : d < 8) : (a * 8) ||| d = a * 8 + d := by
  have h := Nat.two_pow_add_eq_or_of_lt (i := 3) (b := d) (by omega) a
  rw [Nat.mul_comm]
  exact h.symm

end Go.Proofs.YtigkdehaepenhaaGreatDoor.Q

namespace Go.Proofs.YtigkdehaepenhaaGreatDoor.Q
open Go.RowKit

section
variable {P : Program} {Q : Exit → Act → World → Prop}
/-- As Q; by a jump to a label: what holds at that label. -/
def hops (J : Nat → Act → World → Prop) (Q : Exit → Act → World → Prop) (e : Exit) (a : Act) (w : World) : Prop :=
  match e with
  | .goto l => J l a w
  | e => Q e a w
theorem hops_mono {J J' : Nat → Act → World → Prop} (h : ∀ l a w, J l a w → J' l a w) (e : Exit) (a : Act) (w : World) : hops J Q e a w → hops J' Q e a w := by
  cases e with
  | goto l => exact h l a w
  | _ => exact id
theorem hops_ret {J : Nat → Act → World → Prop} {a : Act} {w : World} (h : Q .ret a w) : hops J Q .ret a w := h
theorem hops_goto {J : Nat → Act → World → Prop} {l : Nat} {a : Act} {w : World} (h : J l a w) : hops J Q (.goto l) a w := h

/-- Whatever label is jumped to, what holds there leads on, and the measure falls: then the scope ends as Q. -/
theorem wp_scope_hops {c : Code} (J : Nat → Act → World → Prop) (μ : Nat → Act → World → Nat) {a : Act} {w : World}
    (pass : ∀ l a w, J l a w → ∃ rest, findLabel c l = some rest ∧ rest.wp P (hops (fun l' a' w' => J l' a' w' ∧ μ l' a' w' < μ l a w) Q) a w)
    (start : c.wp P (hops J Q) a w) : (Code.scope c).wp P Q a w := by
  intro b k cs
  have onward : ∀ n l rest, findLabel c l = some rest → ∀ a w, μ l a w = n → J l a w → ∃ e a' w', Q e a' w' ∧ Arrives P (lone (b.at a (.code rest :: .inScope c :: k)) cs w) b k cs e a' w' := by
    intro n
    induction n using Nat.strongRecOn with
    | _ n ih =>
      intro l rest hl a w hn hJ
      obtain ⟨rest', hl', hw⟩ := pass l a w hJ
      obtain rfl : rest' = rest := Option.some.inj (hl'.symm.trans hl)
      obtain ⟨e, a1, w1, hq, hr⟩ := hw b (.inScope c :: k) cs
      cases e with
      | normal => exact ⟨.normal, a1, w1, hq, Steps.trans hr (.one step_inScope)⟩
      | exit id => exact ⟨.exit id, a1, w1, hq, fun k' hk => hr k' (by simp [exitTo, hk])⟩
      | goto l2 =>
        have hq' : J l2 a1 w1 ∧ μ l2 a1 w1 < μ l a w := hq
        obtain ⟨rest2, hl2, _⟩ := pass l2 a1 w1 hq'.1
        obtain ⟨e2, a2, w2, hq2, hr2⟩ := ih _ (by omega) l2 rest2 hl2 a1 w1 rfl hq'.1
        exact ⟨e2, a2, w2, hq2, .of_steps (hr _ (by simp [gotoIn, hl2])) hr2⟩
      | ret => exact ⟨_, a1, w1, hq, hr⟩
      | panic ch => exact ⟨_, a1, w1, hq, hr⟩
      | outgrown => exact ⟨_, a1, w1, hq, hr⟩
  obtain ⟨e, a1, w1, hq, hr⟩ := start b (.inScope c :: k) cs
  cases e with
  | normal => exact ⟨.normal, a1, w1, hq, .head step_scope (Steps.trans hr (.one step_inScope))⟩
  | exit id => exact ⟨.exit id, a1, w1, hq, fun k' hk => .head step_scope (hr k' (by simp [exitTo, hk]))⟩
  | goto l =>
    have hq' : J l a1 w1 := hq
    obtain ⟨rest, hl, _⟩ := pass l a1 w1 hq'
    obtain ⟨e2, a2, w2, hq2, hr2⟩ := onward _ l rest hl a1 w1 rfl hq'
    exact ⟨e2, a2, w2, hq2, .of_steps (.head step_scope (hr _ (by simp [gotoIn, hl]))) hr2⟩
  | ret => exact ⟨_, a1, w1, hq, .of_steps (.one step_scope) hr⟩
  | panic ch => exact ⟨_, a1, w1, hq, .of_steps (.one step_scope) hr⟩
  | outgrown => exact ⟨_, a1, w1, hq, .of_steps (.one step_scope) hr⟩
end

/-- In w the slice v, made behind W0, holds these bytes; nothing of W0 has changed. -/
def Own (W0 : World) (v : Value) (out : Bytes) (w : World) : Prop := Lib.OwnBuf W0.heap.size 5 v out.length (Lib.byteCells out) W0 w
theorem Own.none (W0 : World) : Own W0 (.slice Option.none 0 0) [] W0 := ⟨World.ownsRowF_nil _ _ _ _, Below.refl _ _, Nat.le_refl _⟩
theorem Own.below {W0 : World} {v : Value} {out : Bytes} {w : World} (h : Own W0 v out w) : Below W0.heap.size W0 w := h.2.1
theorem Own.keep {W0 : World} {v : Value} {out : Bytes} {w w' : World} (h : Own W0 v out w) (hb : Below w.heap.size w w') : Own W0 v out w' := by
  obtain ⟨h1, h2, h3⟩ := h
  refine ⟨?_, h2.trans (hb.mono h3), Nat.le_trans h3 hb.size⟩
  exact h1.kept (row := Option.none) ⟨hb.os, hb.tape, hb.output, hb.size, fun k hk _ => hb.block k hk⟩ (by cases v.ownBlock <;> simp)
theorem Own.tab {W0 : World} {v : Value} {out : Bytes} {w : World} (h : Own W0 v out w) (hT : Tab W0) : Tab w := hT.keep h.below

theorem app_byte {ops : Array Oper} {rest : List Oper} {o : Oper} {a : Act} {Q : Exit → Act → World → Prop} (hgd : o.guard = Option.none) (s x : Operand)
    (ho : o.op = .call { callee := .builtin .append, args := #[s, x], argTypes := #[104, 104] }) (W0 : World) {w0 : World} {out : Bytes} {v : Value} (hs : a.eval s = v) (c : UInt8) {n : Int} (hn : n = (c.toNat : Int)) (hb : Own W0 v out w0)
    (hx : a.eval x = .slice (some ⟨w0.heap.size, 0, Option.none⟩) 1 1) (hlen : out.length ≤ 1000000000)
    (h : ∀ v' w', Own W0 v' (out ++ [c]) w' → wpList Tryz.prog ops Q rest (a.put o.dst v') w') : wpList Tryz.prog ops Q (o :: rest) a (w0.alloc (.cells #[.int .u8 n] 5)) := by
  subst hn
  obtain ⟨i0, hi, hz0, hz1, hz2⟩ := info_parts Tryz.Builder_Extra_B.infoByte
  refine Lib.wpList_append_byte hgd s x 104 ho W0.heap.size 5 i0 Tryz.underlying104 hi hz0 hz1 hz2 v out.length (Lib.byteCells out) hs W0 w0 (c.toNat : Int) hb hx (by omega) ?_
  intro v' w' ho'
  refine h v' w' ?_
  unfold Own
  rw [Lib.byteCells_append, List.length_append]
  exact ho'
theorem app_text {ops : Array Oper} {rest : List Oper} {o : Oper} {a : Act} {Q : Exit → Act → World → Prop} {w : World} (hgd : o.guard = Option.none) (sl x : Operand)
    (ho : o.op = .call { callee := .builtin .append, args := #[sl, x], argTypes := #[104, 9] }) (W0 : World) {out : Bytes} {v : Value} (hs : a.eval sl = v) (hb : Own W0 v out w) (s : ByteArray) (hx : a.eval x = .string s)
    (hlen : out.length + s.size ≤ 1000000000)
    (h : ∀ v' w', Own W0 v' (out ++ L s) w' → wpList Tryz.prog ops Q rest (a.put o.dst v') w') : wpList Tryz.prog ops Q (o :: rest) a w := by
  obtain ⟨i0, hi, hz0, hz1, hz2⟩ := info_parts Tryz.Builder_Extra_B.infoByte
  refine Lib.wpList_append_text hgd sl x 104 9 ho W0.heap.size 5 i0 Tryz.underlying104 Tryz.underlying9 hi hz0 hz1 hz2 v out.length (Lib.byteCells out) hs W0 hb s hx (by omega) ?_
  intro v' w' ho'
  refine h v' w' ?_
  unfold Own
  rw [Lib.byteCells_append, List.length_append, L_len]
  exact ho'
theorem own_string {W0 : World} {v : Value} {out : Bytes} {w : World} (h : Own W0 v out w) : (convert 104 9 v).run Tryz.prog w = .ok (.string (T out)) w := by
  obtain ⟨h1, _, _⟩ := h
  rcases h1.2 with ⟨rfl, hz⟩ | ⟨g, cap, cur, fz, rfl, _⟩
  · have : out = [] := List.eq_nil_of_length_eq_zero hz
    subst this
    rw [run_convert_bytes_string w 104 9 5 Option.none 0 0 Tryz.underlying104 Tryz.underlying5 Tryz.underlying9]
    rfl
  · refine run_convert_bytes_back w 104 9 5 ⟨g, 0, Option.none⟩ cap out Tryz.underlying104 Tryz.underlying5 Tryz.underlying9 ?_
    intro j hj
    refine h1.cells (g := g) rfl j _ ?_
    simp [Lib.byteCells, hj]
end Go.Proofs.YtigkdehaepenhaaGreatDoor.Q

namespace Go.Proofs.YtigkdehaepenhaaGreatDoor.Q
open Go.RowKit

/-- What a reader answers. -/
def ansT (o : Option Bytes) : Bytes := o.getD []
def ansB (o : Option Bytes) : Bool := o.isSome
theorem ret_ans {o : Option Bytes} {t : ByteArray} {b : Bool} (ht : t = T (ansT o)) (hb : b = ansB o) : Ending.returned (.tuple #[.string t, .bool b]) = .returned (.tuple #[.string (T (ansT o)), .bool (ansB o)]) := by rw [ht, hb]
theorem ret_none {o : Option Bytes} (h : o = none) : Ending.returned (.tuple #[.string ⟨#[]⟩, .bool false]) = .returned (.tuple #[.string (T (ansT o)), .bool (ansB o)]) := by subst h; rfl
theorem ret_some {o : Option Bytes} {l : Bytes} (h : o = some l) : Ending.returned (.tuple #[.string (T l), .bool true]) = .returned (.tuple #[.string (T (ansT o)), .bool (ansB o)]) := by subst h; rfl

theorem cIn_q {l : Bytes} (h : nth l 0 = 34) : cIn l = if l.drop 1 = [] then some [] else none := by
  have hl : l ≠ [] := by rintro rfl; exact absurd h (by decide)
  rw [cIn, dif_neg hl, if_pos h]
theorem cIn_p {l : Bytes} (hl : l ≠ []) (h : nth l 0 ≠ 34) (h1 : nth l 0 ≠ 92) : cIn l = (cIn (l.drop 1)).map (l.headD 0 :: ·) := by
  rw [cIn, dif_neg hl, if_neg h, if_neg h1]
theorem cIn_b {l : Bytes} (h : nth l 0 = 92) (h1 : nth l 1 = 34 ∨ nth l 1 = 92) : cIn l = (cIn (l.drop 2)).map ((l.drop 1).headD 0 :: ·) := by
  have hl : l ≠ [] := by rintro rfl; exact absurd h (by decide)
  rw [cIn, dif_neg hl, if_neg (by omega), if_pos h, if_pos h1]
theorem cIn_e {l : Bytes} (h : nth l 0 = 92) (h1 : ¬ (nth l 1 = 34 ∨ nth l 1 = 92)) (h2 : (rdE l).2 ≠ 0) : cIn l = (cIn (l.drop (rdE l).2)).map ((rdE l).1 :: ·) := by
  have hl : l ≠ [] := by rintro rfl; exact absurd h (by decide)
  rw [cIn, dif_neg hl, if_neg (by omega), if_pos h, if_neg h1, dif_neg h2]
theorem cIn_x {l : Bytes} (h : nth l 0 = 92) (h1 : ¬ (nth l 1 = 34 ∨ nth l 1 = 92)) (h2 : (rdE l).2 = 0) : cIn l = none := by
  have hl : l ≠ [] := by rintro rfl; exact absurd h (by decide)
  rw [cIn, dif_neg hl, if_neg (by omega), if_pos h, if_neg h1, dif_pos h2]
theorem cIn_nil : cIn [] = none := by rw [cIn]; simp
theorem map_more (o : Option Bytes) (out : Bytes) (b : UInt8) : (o.map (b :: ·)).map (out ++ ·) = o.map (out ++ [b] ++ ·) := by
  rw [Option.map_map]
  congr 1
  funext x
  simp
theorem map_more2 (o : Option Bytes) (out p : Bytes) : (o.map (p ++ ·)).map (out ++ ·) = o.map (out ++ p ++ ·) := by
  rw [Option.map_map]
  congr 1
  funext x
  simp
theorem headD_get (l : Bytes) (h : 0 < l.length) : l.headD 0 = l[0]'h := by
  cases l with
  | nil => simp at h
  | cons b r => rfl
theorem headD1_get (l : Bytes) (h : 1 < l.length) : (l.drop 1).headD 0 = l[1]'h := by
  match l, h with
  | a :: b :: r, _ => rfl
theorem headD_at (t : ByteArray) (h0 : 0 < t.size) : (L t).headD 0 = t[0]'h0 := headD_get (L t) _
theorem headD1_at (t : ByteArray) (h1 : 1 < t.size) : ((L t).drop 1).headD 0 = t[1]'h1 := headD1_get (L t) _

def CRel (s : ByteArray) (w : World) (l : Nat) (v v4 : Value) (w' : World) : Prop :=
  ∃ (t : ByteArray) (out : Bytes), v = .string t ∧ out.length + t.size ≤ s.size ∧ Own w v4 out w' ∧ (cIn (L t)).map (out ++ ·) = cP (L s) ∧ (l = 2 ∨ (l = 1 ∧ nth (L t) 0 = 92) ∨ (l = 0 ∧ nth (L t) 0 = 34))
def JC (s : ByteArray) (w : World) (l : Nat) (a' : Act) (w' : World) : Prop := ∃ u0 u4 u5 u6 u7 u8 u9 u10 u11 u12 u13 u14 u15 u16 u17 u18 u19 u20 u21 u22 u23 u24 u25 u26 u27 u28 u29 u30 u31 u32 u33 u34 u35 u36 u37 u38 u39 u40 u41 u42 u43 u44 u45 u46 u47 u48 u49 u50 u51 u52 u53 u54 u55 u56 u57 u58 u59 : Value, CRel s w l u0 u4 w' ∧ a' = { tmps := #[u0, undef, .string ⟨#[]⟩, .bool false, u4, u5, u6, u7, u8, u9, u10, u11, u12, u13, u14, u15, u16, u17, u18, u19, u20, u21, u22, u23, u24, u25, u26, u27, u28, u29, u30, u31, u32, u33, u34, u35, u36, u37, u38, u39, u40, u41, u42, u43, u44, u45, u46, u47, u48, u49, u50, u51, u52, u53, u54, u55, u56, u57, u58, u59], defers := [] }
def muC (l : Nat) (a : Act) (w : World) : Nat := 2 * (textOf (a.tmps.getD 0 undef)).size + (if l = 2 then 1 else 0)

end Go.Proofs.YtigkdehaepenhaaGreatDoor.Q

namespace Go.Proofs.YtigkdehaepenhaaGreatDoor.Q
open Go.RowKit

/-- A plain sign? -/
def isSign (r : Int) : Bool := ([95, 64, 37, 43, 61, 58, 44, 46, 47, 45] : List Nat).any (fun n => (n : Int) == r)
def SignRel (r : Int) (S : ByteArray) (v : Value) : Prop := ∃ i : Nat, i ≤ 10 ∧ v = .int .i64 (i : Int) ∧ ∀ j (h : j < S.size), j < i → ((S[j]'h).toNat : Int) ≠ r
theorem isSign_of {S : ByteArray} (hS : ⟨#[95, 64, 37, 43, 61, 58, 44, 46, 47, 45]⟩ = S) {j : Nat} (h : j < S.size) : isSign ((S[j]'h).toNat : Int) = true := by
  subst hS
  have : j < 10 := h
  match j, this with
  | 0, _ => rfl
  | 1, _ => rfl
  | 2, _ => rfl
  | 3, _ => rfl
  | 4, _ => rfl
  | 5, _ => rfl
  | 6, _ => rfl
  | 7, _ => rfl
  | 8, _ => rfl
  | 9, _ => rfl
theorem isSign_no {S : ByteArray} (hS : ⟨#[95, 64, 37, 43, 61, 58, 44, 46, 47, 45]⟩ = S) {r : Int} (h : ∀ j (hj : j < S.size), j < 10 → ((S[j]'hj).toNat : Int) ≠ r) : isSign r = false := by
  subst hS
  have a0 := h 0 (by decide) (by decide)
  have a1 := h 1 (by decide) (by decide)
  have a2 := h 2 (by decide) (by decide)
  have a3 := h 3 (by decide) (by decide)
  have a4 := h 4 (by decide) (by decide)
  have a5 := h 5 (by decide) (by decide)
  have a6 := h 6 (by decide) (by decide)
  have a7 := h 7 (by decide) (by decide)
  have a8 := h 8 (by decide) (by decide)
  have a9 := h 9 (by decide) (by decide)
  unfold isSign
  simp only [List.any_cons, List.any_nil, Bool.or_eq_false_iff, beq_eq_false_iff_ne]
  exact ⟨a0, a1, a2, a3, a4, a5, a6, a7, a8, a9, trivial⟩

set_option maxHeartbeats 1000000 in
set_option maxRecDepth 100000 in
theorem sign_any (r : Int) (w : World) : Calls Tryz.prog 116 #[.int .i64 r] w fun e w' => e = .returned (.bool (isSign r)) ∧ w' = w := by
  go_enter Tryz.func116, Tryz.ntmps116
  go_wp2
  generalize hS : (⟨#[95, 64, 37, 43, 61, 58, 44, 46, 47, 45]⟩ : ByteArray) = S
  have hz : S.size = 10 := by rw [← hS]; rfl
  have HS := Lib.hid hS
  clear hS
  go_loop [4] (SignRel r S) (fun i => 10 - (intOf i).toNat)
  case atStart => exact ⟨0, by omega, rfl, fun j _ h => by omega⟩
  case round =>
    obtain ⟨i, hi, rfl, hno⟩ := hrel
    have HN := Lib.hid hno
    clear hno
    by_cases hlt : i < 10
    · have his : i < S.size := by omega
      obtain ⟨n, hn⟩ : ∃ n, (S[i]'his).toNat = n := ⟨_, rfl⟩
      have HI : Hid (isSign (n : Int) = true) := Lib.hid (by rw [← hn]; exact isSign_of HS.out his)
      have HE := Lib.hid hn
      have hb : n < 256 := by rw [← hn]; exact (S[i]'his).toNat_lt
      by_cases he : (n : Int) = r
      · have hx : ((n : Int) == r) = true := beq_iff_eq.2 he
        have HR : Hid (isSign r = true) := Lib.hid (by rw [← he]; exact HI.out)
        clear he
        go_wp2_with fail
        go_ret
        rw [HR.out]
        exact ⟨rfl, rfl⟩
      · have hx : ((n : Int) == r) = false := beq_eq_false_iff_ne.2 he
        have HN2 : Hid (∀ j (h : j < S.size), j < i + 1 → ((S[j]'h).toNat : Int) ≠ r) := Lib.hid (fun j h hj => by
          by_cases hji : j = i
          · subst hji; rw [HE.out]; exact he
          · exact HN.out j h (by omega))
        clear he
        go_wp2_with fail
        refine ⟨⟨i + 1, by omega, by go_num, HN2.out⟩, ?_⟩
        simp [intOf]
        omega
    · obtain rfl : i = 10 := by omega
      have HR : Hid (isSign r = false) := Lib.hid (isSign_no HS.out HN.out)
      go_wp2_with fail
      go_ret
      rw [HR.out]
      exact ⟨rfl, rfl⟩

/-- What the reference says of a character's bytes. -/
def rk (c : Bytes) : Nat := if kc c = 1 then 2 else if kc c = 0 then 1 else 0
def kindsP (l : Bytes) : List Nat := (chunks l).flatMap (fun c => List.replicate c.length (rk c))
theorem kindsP_nil : kindsP [] = [] := by unfold kindsP; rw [chunks_nil]; rfl
theorem kindsP_step {l : Bytes} (h : l ≠ []) : kindsP l = List.replicate (sz l) (rk (l.take (sz l))) ++ kindsP (l.drop (sz l)) := by
  unfold kindsP
  rw [chunks_step l h, List.flatMap_cons, List.length_take, Nat.min_eq_left (sz_le l h)]
theorem kindsP_len (l : Bytes) : (kindsP l).length = l.length := by
  refine by_drop (P := fun l => (kindsP l).length = l.length) ?_ ?_ l
  · rw [kindsP_nil]; rfl
  · intro l h ih
    have := sz_le l h
    rw [kindsP_step h, List.length_append, List.length_replicate, ih, List.length_drop]
    omega

/-- In w the slice v, made behind W0, holds these numbers; nothing of W0 has changed. -/
def OwnI (W0 : World) (v : Value) (ks : List Nat) (w : World) : Prop :=
  w.ownsRow W0.heap.size 3 1 v ks.length (ks.map fun k : Nat => Value.int .i64 (k : Int)) ∧ Below W0.heap.size W0 w ∧ W0.heap.size ≤ w.heap.size
theorem OwnI.none (W0 : World) : OwnI W0 (.slice Option.none 0 0) [] W0 := ⟨World.ownsRow_nil _ _ _ _, Below.refl _ _, Nat.le_refl _⟩
theorem infoInt : (Tryz.prog.info? 3).map (fun i => (i.zero, i.size, i.bytes)) = some (some (.int .i64 0), 1, 8) := by kernel_rfl
theorem app_int {ops : Array Oper} {rest : List Oper} {o : Oper} {a : Act} {Q : Exit → Act → World → Prop} (hgd : o.guard = Option.none) (s x : Operand)
    (ho : o.op = .call { callee := .builtin .append, args := #[s, x], argTypes := #[29, 29] }) (W0 : World) {w0 : World} {ks : List Nat} {v : Value} (hs : a.eval s = v) (k : Nat) {n : Int} (hn : n = (k : Int)) (hb : OwnI W0 v ks w0)
    (hx : a.eval x = .slice (some ⟨w0.heap.size, 0, Option.none⟩) 1 1) (hlen : ks.length ≤ 1000000000)
    (h : ∀ v' w', OwnI W0 v' (ks ++ [k]) w' → wpList Tryz.prog ops Q rest (a.put o.dst v') w') : wpList Tryz.prog ops Q (o :: rest) a (w0.alloc (.cells #[.int .i64 n] 3)) := by
  subst hn
  obtain ⟨i0, hi, hz0, hz1, hz2⟩ := info_parts infoInt
  obtain ⟨h1, h2, h3⟩ := hb
  have h1' : (w0.alloc (.cells #[.int .i64 (k : Int)] 3)).ownsRow W0.heap.size 3 1 v ks.length (ks.map fun k : Nat => Value.int .i64 (k : Int)) := h1.alloc _
  have hb' : Below W0.heap.size W0 (w0.alloc (.cells #[.int .i64 (k : Int)] 3)) := h2.alloc h3 _
  have hs' : W0.heap.size ≤ (w0.alloc (.cells #[.int .i64 (k : Int)] 3)).heap.size := by simp; omega
  refine wpList_append_own _ hgd s x 29 ho W0.heap.size 3 i0 (.int .i64 0) 1 8 Tryz.underlying29 hi hz0 hz1 hz2 rfl (by decide) v ks.length _ hs h1' ⟨w0.heap.size, 0, Option.none⟩ 1 1 [.int .i64 (k : Int)] hx rfl ?c1 ?c2 (by unfold maxLen; omega) (by omega) hs' ?_
  case c1 =>
    intro j u hj
    match j, hj with
    | 0, hj => simp at hj; subst hj; simp [Addr.add]
    | (j + 1), hj => simp at hj
  case c2 => intro u hu; simp at hu; subst hu; rfl
  intro v' w' ho' hg _
  refine h v' w' ⟨?_, hb'.grown hg hs' (fun g hgv => (h1'.lt g hgv).1), Nat.le_trans hs' hg.size⟩
  rw [List.length_append, List.map_append]
  exact ho'
end Go.Proofs.YtigkdehaepenhaaGreatDoor.Q
