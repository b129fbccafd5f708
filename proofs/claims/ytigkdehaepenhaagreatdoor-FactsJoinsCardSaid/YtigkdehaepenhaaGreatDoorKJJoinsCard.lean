/-
  What facts' written returns: a format, with what each directive tells in its place. Conditions: a format of at most 1000 bytes, texts of at most 60000; the tables lie.
  What facts.Format returns: what a format tells of a node that there is, an error of one that there isn't. Conditions: what Node and Link return is known; a format of at most 1000 bytes, texts of at most 60000; the tables lie.
  What the listed package-level variables give the facts: the table of classes, powers of ten, trailing noughts. Conditions: none.
  Arrays of texts that came in, and rows of devices. Conditions: what came in lies in memory.
  What few changes make is within the bounds that the facts of nodes ask: numbers of 64 bits, modes of 12 bits, three kinds, short texts. Conditions: few changes.
  What facts.Format returns of a file system that lies in memory; that the laws' own first question is answered. Conditions: the file system lies in memory; a format of at most 1000 bytes, names of at most 60000; the tables lie.
  What the listed package-level variables give the facts, and the package quote: its tables too. Conditions: none.
  That the law FactsJoins returns true. Conditions: the tables lie; what came in lies in memory.
  The law FactsJoins (promise P16.1: two formats, the first of which does not end with a %, are told one behind the other) returns true for every input and leaves its arguments alone. Conditions: the card's own, no other.
-/
import Derived.Test.YtigkdehaepenhaaGreatDoorKJTold
import Derived.Test.YtigkdehaepenhaaGreatDoorKJMem
import Derived.Test.YtigkdehaepenhaaGreatDoorShelf
import Derived.Test.YtigkdehaepenhaaGreatDoorKPText
import Derived.Test.YtigkdehaepenhaaGreatDoorKVArg
import Derived.Test.YtigkdehaepenhaaGreatDoorKVMade
import Derived.Test.YtigkdehaepenhaaGreatDoorKQLaid
import Derived.Test.YtigkdehaepenhaaGreatDoorKQQuote
set_option linter.unusedSimpArgs false
set_option linter.unusedVariables false
namespace Go.Proofs.YtigkdehaepenhaaGreatDoor.J
open Go.Proofs.YtigkdehaepenhaaGreatDoor.B
open Go.RowKit

def szOf : Value → Nat
  | .string s => s.size
  | _ => 0
def WrRel (n : P.Nv) (nm qt : By) (f : ByteArray) (W0 : World) (b K : Nat) (v1 : Value) (wr : World) : Prop :=
  ∃ (t : ByteArray) (out : By), v1 = .string t ∧ Hid (P.Bld W0 b out wr) ∧ Hid (out ++ fmtJ n nm qt t.data.toList = fmtJ n nm qt f.data.toList) ∧ t.size ≤ f.size ∧ Hid (∀ c ∈ t.data.toList, c ∈ f.data.toList) ∧ out.length ≤ K * f.size
theorem drop_size (t : ByteArray) (k : Nat) : (t.extract k t.size).data.toList = t.data.toList.drop k := by
  have hl : t.data.toList.length = t.size := by simp
  rw [ByteArray.data_extract, Array.toList_extract, List.extract_eq_take_drop, ← hl, List.take_of_length_le]
  simp
theorem take_bytes (t : ByteArray) (k : Nat) : (t.extract 0 k).data.toList = t.data.toList.take k := by
  rw [ByteArray.data_extract, Array.toList_extract, List.extract_eq_take_drop]
  simp
theorem two_at (f : ByteArray) (k : Nat) (h : k + 1 < f.size) (h37 : f.data.toList[k]? = some 37) : (f.extract k (k + 2)).data.toList = [37, f[k + 1]'h] := by
  have hl : f.data.toList.length = f.size := by simp
  have e1 : f.data.toList.drop k = 37 :: f.data.toList.drop (k + 1) := by
    obtain ⟨hi, he⟩ := List.getElem?_eq_some_iff.1 h37
    rw [List.drop_eq_getElem_cons hi, he]
  have e2 : f.data.toList.drop (k + 1) = (f[k + 1]'h) :: f.data.toList.drop (k + 2) := List.drop_eq_getElem_cons (l := f.data.toList) (by omega)
  rw [ByteArray.data_extract, Array.toList_extract, List.extract_eq_take_drop, e1, e2, show k + 2 - k = 2 by omega]
  rfl

set_option maxRecDepth 100000 in
set_option maxHeartbeats 16000000 in
theorem written_any (n : P.Nv) (nm lt : ByteArray) (qf : ByteArray → ByteArray) (f : ByteArray) (w : World) (ht : FTab w) (hN : NumJ n) (hq : (78 : UInt8) ∈ f.data.toList → QJ qf w) (hn : nm.size ≤ 60000) (hl : lt.size ≤ 60000) (hf : f.size ≤ 1000) (hqs : (quotB qf n.kind nm lt).size ≤ 900000) :
    Calls Tryz.prog 23 #[subV n nm lt, .string f] w fun e w' => e = .returned (.string (txt (fmtJ n nm.data.toList (quotB qf n.kind nm lt).data.toList f.data.toList))) ∧ Below w.heap.size w w' := by
  have HTd := Lib.hid (fun (dir : ByteArray) (hz : 1 < dir.size) (c : UInt8) (hc : dir[1]'hz = c) (hm : c ∈ f.data.toList) (W : World) (hb : Below w.heap.size w W) => told_any n nm lt qf dir hz c hc W (ht.keep hb) hN (fun e => (hq (by rw [e] at hm; exact hm)).keep hb) hn hl)
  have hl1 : nm.data.toList.length ≤ 900000 := by rw [size_list]; omega
  have hl2 : (quotB qf n.kind nm lt).data.toList.length ≤ 900000 := by rw [size_list]; omega
  have HLn := Lib.hid (fun (c : UInt8) (s : By) (h : oneJ n nm.data.toList (quotB qf n.kind nm lt).data.toList c = some s) => oneJ_len hN hl1 hl2 (by omega) c s h)
  have HLf := Lib.hid (show (fmtJ n nm.data.toList (quotB qf n.kind nm lt).data.toList f.data.toList).length ≤ 900000 * f.size from by
    have := fmtJ_len hN hl1 hl2 (by omega) f.data.toList
    rwa [size_list] at this)
  clear ht hN hq hqs hl1 hl2
  generalize (quotB qf n.kind nm lt).data.toList = qt at HTd HLn HLf ⊢
  obtain ⟨nl, hnl⟩ : ∃ nl, nm.data.toList = nl := ⟨_, rfl⟩
  rw [hnl] at HTd HLn HLf ⊢
  clear hnl hn hl
  unfold subV subC at HTd ⊢
  go_enter Tryz.func23, Tryz.ntmps23
  go_upto_region 1 with fail
  obtain ⟨B0, hB0⟩ : ∃ B0, w.heap.size = B0 := ⟨_, rfl⟩
  obtain ⟨w1, hw1⟩ : ∃ w1, w.alloc (.cells #[.int .i64 n.dev, .int .i64 n.ino, .int .i64 n.kind, .int .i64 n.mode, .int .i64 n.uid, .int .i64 n.gid, .int .i64 n.size, .int .i64 n.blocks, .int .i64 n.links, .int .i64 n.ta, .int .i64 n.tb, .int .i64 n.tc, .string n.target, .string nm, .string lt] 67) = w1 := ⟨_, rfl⟩
  have HB1 := Lib.hid (show Below w.heap.size w w1 from by rw [← hw1]; exact (Below.refl _ _).alloc (Nat.le_refl _) _)
  have HX1 := Lib.hid (show w1.heap[B0]? = some (.cells #[.int .i64 n.dev, .int .i64 n.ino, .int .i64 n.kind, .int .i64 n.mode, .int .i64 n.uid, .int .i64 n.gid, .int .i64 n.size, .int .i64 n.blocks, .int .i64 n.links, .int .i64 n.ta, .int .i64 n.tb, .int .i64 n.tc, .string n.target, .string nm, .string lt] 67) from by rw [← hw1, ← hB0]; exact heap_alloc_new _ _)
  rw [hw1, hB0]
  clear hw1 hB0
  have HM := Lib.hid (P.Bld.made w1)
  go_upto_region 2 with fail
  go_loopw [1] (WrRel n nl qt f w1 w1.heap.size 900000) (fun v _ => szOf v)
  case atStart => exact ⟨f, [], rfl, HM, Lib.hid rfl, Nat.le_refl _, Lib.hid (fun c h => h), Nat.zero_le _⟩
  case round =>
    obtain ⟨t, out, rfl, HB, HE, hts, HS, hol⟩ := hrel
    have HIb := Lib.hid (fun (W : World) => Tryz.strings_IndexByte t 37 W)
    simp only [show (37 : Int).toNat.toUInt8 = 37 from rfl] at HIb
    have htl : t.data.toList.length = t.size := size_list t
    by_cases hno : Lib.indexByte t.data.toList 37 = -1
    · have HF := Lib.hid (show out ++ t.data.toList = fmtJ n nl qt f.data.toList from by rw [← HE.out, fmtJ_no hno])
      rw [hno] at HIb
      clear hno HE
      go_wp2_with (first
        | (go_at_call 45; refine (HIb.out _).mono ?_; rintro e w2 ⟨rfl, hw⟩; subst hw)
        | (go_at_call 46; refine (HB.out.writeString (by omega) t (by omega)).mono ?_; rintro e w3 ⟨⟨v3, rfl⟩, hB3, _⟩; have HB3 := Lib.hid hB3; clear hB3)
        | (go_at_call 47; refine HB3.out.string.mono ?_; rintro e w4 ⟨rfl, hb4⟩; have HB4 := Lib.hid hb4; clear hb4))
      try rw [Exit.noGoto_ret]
      go_ret
      exact ⟨by rw [HF.out]; rfl, below_two HB1.out HB4.out⟩
    · have hge := Lib.indexByte_ge t.data.toList 37
      obtain ⟨i, hi⟩ : ∃ i : Nat, Lib.indexByte t.data.toList 37 = (i : Int) := ⟨(Lib.indexByte t.data.toList 37).toNat, by omega⟩
      obtain ⟨hil, _, h37⟩ := at_split hi
      have HI := Lib.hid hi
      rw [hi] at HIb
      have dn : decide ((i : Int) < 0) = false := decide_eq_false (by omega)
      by_cases hlast : i + 1 = t.size
      · have HF := Lib.hid (show out ++ t.data.toList = fmtJ n nl qt f.data.toList from by rw [← HE.out, fmtJ_last hi (by omega)])
        have dl : ((i : Int) == (t.size : Int) - 1) = true := beq_iff_eq.2 (by omega)
        clear hi HE h37 hno hge HI
        go_wp2_with (first
          | (go_at_call 45; refine (HIb.out _).mono ?_; rintro e w2 ⟨rfl, hw⟩; subst hw)
          | (go_at_call 46; refine (HB.out.writeString (by omega) t (by omega)).mono ?_; rintro e w3 ⟨⟨v3, rfl⟩, hB3, _⟩; have HB3 := Lib.hid hB3; clear hB3)
          | (go_at_call 47; refine HB3.out.string.mono ?_; rintro e w4 ⟨rfl, hb4⟩; have HB4 := Lib.hid hb4; clear hb4))
        try rw [Exit.noGoto_ret]
        go_ret
        exact ⟨by rw [HF.out]; rfl, below_two HB1.out HB4.out⟩
      · have dl : ((i : Int) == (t.size : Int) - 1) = false := beq_eq_false_iff_ne.2 (by omega)
        have hin : i + 1 < t.size := by omega
        obtain ⟨c, hc⟩ : ∃ c, t[i + 1]'hin = c := ⟨_, rfl⟩
        have hcl : t.data.toList[i + 1]? = some c := by rw [List.getElem?_eq_getElem (by omega), ← hc]; rfl
        have HCm := Lib.hid (HS.out c (List.mem_of_getElem? hcl))
        have hdir := two_at t i hin (by rw [List.getElem?_eq_getElem hil]; have := List.drop_eq_getElem_cons hil; rw [h37] at this; exact congrArg some (List.cons.inj this).1.symm)
        rw [hc] at hdir
        obtain ⟨D, hD⟩ : ∃ D, t.extract i (i + 2) = D := ⟨_, rfl⟩
        rw [hD] at hdir
        have hDs : 1 < D.size := by have := congrArg List.length hdir; rw [size_list] at this; simp only [List.length_cons, List.length_nil] at this; omega
        have hD1 : D[1]'hDs = c := by
          have e1 : D.data.toList[1]? = some (D[1]'hDs) := list_at hDs
          rw [hdir] at e1
          exact (Option.some.inj e1).symm
        have HCt := Lib.hid (fun (W : World) (hb : Below w.heap.size w W) => HTd.out D hDs c hD1 HCm.out W hb)
        rw [hdir] at HCt
        have HSt := Lib.hid (fmtJ_step (n := n) (nm := nl) (qt := qt) hi hcl)
        have HSl := Lib.hid (show ((oneJ n nl qt c).getD [37, c]).length ≤ 900000 from by
          cases ho : oneJ n nl qt c with
          | none => show 2 ≤ _; omega
          | some s => exact HLn.out c s ho)
        obtain ⟨S, hS⟩ : ∃ S, (oneJ n nl qt c).getD [37, c] = S := ⟨_, rfl⟩
        rw [hS] at HCt HSt HSl
        have HPre : Hid ((t.extract 0 i).data.toList = t.data.toList.take i) := Lib.hid (take_bytes t i)
        have HPost : Hid ((t.extract (i + 2) t.size).data.toList = t.data.toList.drop (i + 2)) := Lib.hid (drop_size t (i + 2))
        have hps : (t.extract 0 i).size = i := by rw [← size_list, HPre.out, List.length_take]; omega
        have hqs : (t.extract (i + 2) t.size).size = t.size - (i + 2) := by rw [← size_list, HPost.out, List.length_drop]; omega
        have HFin := Lib.hid (show (out ++ t.data.toList.take i ++ S) ++ fmtJ n nl qt (t.data.toList.drop (i + 2)) = fmtJ n nl qt f.data.toList ∧ (out ++ t.data.toList.take i ++ S).length ≤ 900000 * f.size from by
          have e : (out ++ t.data.toList.take i ++ S) ++ fmtJ n nl qt (t.data.toList.drop (i + 2)) = fmtJ n nl qt f.data.toList := by rw [← HE.out, HSt.out, List.append_assoc, List.append_assoc]
          have e2 := congrArg List.length e
          rw [List.length_append] at e2
          exact ⟨e, by have := HLf.out; omega⟩)
        have HSs := Lib.hid (show ∀ c ∈ (t.extract (i + 2) t.size).data.toList, c ∈ f.data.toList from fun c hc => HS.out c (List.mem_of_mem_drop (by rw [HPost.out] at hc; exact hc)))
        have hms : out.length + i ≤ 900000 * f.size := by
          have := HFin.out.2
          rw [List.length_append, List.length_append, List.length_take] at this
          omega
        have i1 : (i : Int) + 2 ≤ (t.size : Int) := by omega
        have i2 : (0 : Int) ≤ (i : Int) := by omega
        have i3 : (i : Int) ≤ (i : Int) + 2 := by omega
        have i4 : (0 : Int) ≤ (i : Int) + 2 := by omega
        have i5 : ((i : Int) + 2).toNat = i + 2 := by omega
        have i6 : ((i : Int)).toNat = i := by omega
        have i7 : (i : Int) ≤ (t.size : Int) := by omega
        have hw2 : IntKind.i64.wrap ((i : Int) + 2) = (i : Int) + 2 := IntWalk.i64_in _ (by omega)
        clear hi HE h37 hno hge HI hS hcl hdir hD1 hc HSt
        generalize hpx : t.extract 0 i = PX at HPre hps
        generalize hqx : t.extract (i + 2) t.size = QX at HPost hqs HSs
        go_upto_region 6 with (go_at_call 45; refine (HIb.out _).mono ?_; rintro e w2 ⟨rfl, hw⟩; subst hw)
        go_upto_region 7 with (go_at_call 46; refine (HB.out.writeString (by omega) PX (by omega)).mono ?_; rintro e w3 ⟨⟨v3, rfl⟩, hB3, _⟩; have HB3 := Lib.hid hB3; clear hB3)
        have HXs := Lib.hid (show ∀ X, Below w1.heap.size w1 X → X.heap[B0]? = some (.cells #[.int .i64 n.dev, .int .i64 n.ino, .int .i64 n.kind, .int .i64 n.mode, .int .i64 n.uid, .int .i64 n.gid, .int .i64 n.size, .int .i64 n.blocks, .int .i64 n.links, .int .i64 n.ta, .int .i64 n.tb, .int .i64 n.tc, .string n.target, .string nm, .string lt] 67) from fun X hX => (hX.block _ (heap_lt HX1.out)).trans HX1.out)
-- TILL 1
        refine B.Till.region (z := 1000) (S := fun w' => Below w1.heap.size w1 w') (by kernel_rfl) (HB3.out.2.1.drew) (fun hHeld => ?_)
        refine B.Till.takeA (i := 0) (oi := { dst := some 25, op := Op.load 67 (Operand.tmp 2), type := 67, pos := "facts.go:64", after := #[], guard := none }) (v := .agg #[.int .i64 n.dev, .int .i64 n.ino, .int .i64 n.kind, .int .i64 n.mode, .int .i64 n.uid, .int .i64 n.gid, .int .i64 n.size, .int .i64 n.blocks, .int .i64 n.links, .int .i64 n.ta, .int .i64 n.tb, .int .i64 n.tc, .string n.target, .string nm, .string lt]) rfl (by kernel_rfl) (by kernel_rfl) (by kernel_rfl) (by kernel_rfl) (fun _ _ _ h => h) (yieldsIf_load_mid (by rfl) 67 (.tmp 2) rfl B0 0 rfl [.int .i64 n.dev, .int .i64 n.ino, .int .i64 n.kind, .int .i64 n.mode, .int .i64 n.uid, .int .i64 n.gid, .int .i64 n.size, .int .i64 n.blocks, .int .i64 n.links, .int .i64 n.ta, .int .i64 n.tb, .int .i64 n.tc, .string n.target, .string nm, .string lt] _ (fun w0 hS0 => range_of (HXs.out _ hS0)) Tryz.underlying67 rfl sizeSub) (by assumption) ?_
        try simp only [Act.put, List.setIfInBounds_toArray, List.set_cons_zero, List.set_cons_succ]
        refine B.Till.takeA (i := 1) (oi := { dst := some 26, op := Op.move (Operand.tmp 1), type := 9, pos := "facts.go:64", after := #[], guard := none }) (v := .string t) rfl (by kernel_rfl) (by kernel_rfl) (by kernel_rfl) (by kernel_rfl) (fun _ _ _ h => h) (Or.inl ⟨by rfl, fun w0 hS0 => ?_⟩) (by assumption) ?_
        · go_simp
        try simp only [Act.put, List.setIfInBounds_toArray, List.set_cons_zero, List.set_cons_succ]
        refine B.Till.takeA (i := 2) (oi := { dst := some 27, op := Op.move (Operand.tmp 6), type := 3, pos := "facts.go:64", after := #[], guard := none }) (v := .int .i64 (i : Int)) rfl (by kernel_rfl) (by kernel_rfl) (by kernel_rfl) (by kernel_rfl) (fun _ _ _ h => h) (Or.inl ⟨by rfl, fun w0 hS0 => ?_⟩) (by assumption) ?_
        · go_simp
        try simp only [Act.put, List.setIfInBounds_toArray, List.set_cons_zero, List.set_cons_succ]
        refine B.Till.takeA (i := 3) (oi := { dst := some 28, op := Op.move (Operand.tmp 6), type := 3, pos := "facts.go:64", after := #[], guard := none }) (v := .int .i64 (i : Int)) rfl (by kernel_rfl) (by kernel_rfl) (by kernel_rfl) (by kernel_rfl) (fun _ _ _ h => h) (Or.inl ⟨by rfl, fun w0 hS0 => ?_⟩) (by assumption) ?_
        · go_simp
        try simp only [Act.put, List.setIfInBounds_toArray, List.set_cons_zero, List.set_cons_succ]
        refine B.Till.takeA (i := 4) (oi := { dst := some 29, op := Op.binOp BinOp.add 3 (Operand.tmp 28) (Operand.const (Value.int IntKind.i64 2)) 3, type := 3, pos := "facts.go:64", after := #[{ on := 3, ground := Ground.data }], guard := none }) (v := .int .i64 ((i : Int) + 2)) rfl (by kernel_rfl) (by kernel_rfl) (by kernel_rfl) (by kernel_rfl) (fun _ _ _ h => h) (Or.inl ⟨by rfl, fun w0 hS0 => ?_⟩) (by assumption) ?_
        · go_simp
        try simp only [Act.put, List.setIfInBounds_toArray, List.set_cons_zero, List.set_cons_succ]
        refine B.Till.takeA (i := 5) (oi := { dst := some 30, op := Op.slice 9 (Operand.tmp 26) (some (Operand.tmp 27)) (some (Operand.tmp 29)) none, type := 9, pos := "facts.go:64", after := #[{ on := 1, ground := Ground.data }, { on := 2, ground := Ground.data }, { on := 4, ground := Ground.data }], guard := none }) (v := .string D) rfl (by kernel_rfl) (by kernel_rfl) (by kernel_rfl) (by kernel_rfl) (fun _ _ _ h => h) (Or.inl ⟨by rfl, fun w0 hS0 => ?_⟩) (by assumption) ?_
        · go_simp
        try simp only [Act.put, List.setIfInBounds_toArray, List.set_cons_zero, List.set_cons_succ]
        refine B.Till.next (i := 6) (o := { dst := some 31, op := Op.call { callee := Callee.value (Operand.func 48), args := #[Operand.tmp 25, Operand.tmp 30], argTypes := #[67, 9] }, type := 9, pos := "facts.go:64", after := #[{ on := 0, ground := Ground.data }, { on := 5, ground := Ground.data }], guard := none }) (by kernel_rfl) rfl (fun K hK => ?_)
        go_simp
        refine (HCt.out _ (below_two HB1.out hHeld)).mono ?_
        rintro e w4 ⟨rfl, hb4⟩
        have hH4 : Below w3.heap.size w3 w4 := ((Below.refl _ _).drew).trans hb4
        clear hb4
        go_wp2_with fail
        refine hK.out _ _ (fun _ => HB3.out.2.1.trans (hH4.mono HB3.out.2.2)) ?_
        clear hK K
        try simp only [Act.put, List.setIfInBounds_toArray, List.set_cons_zero, List.set_cons_succ]
        refine B.Till.next (i := 7) (o := { dst := some 32, op := Op.call { callee := Callee.value (Operand.func 46), args := #[Operand.tmp 5, Operand.tmp 31], argTypes := #[106, 9] }, type := 110, pos := "facts.go:64", after := #[{ on := 6, ground := Ground.data }, { on := 6, ground := Ground.chain }], guard := none }) (by kernel_rfl) rfl (fun K hK => ?_)
        go_simp
        have hB4 := HB3.out.keep hH4
        refine (hB4.writeString (by rw [List.length_append, HPre.out, List.length_take]; omega) (txt S) (by rw [txt_size]; have := HSl.out; omega)).mono ?_
        rintro e w5 ⟨⟨v5, rfl⟩, hB5, _⟩
        rw [txt_list] at hB5
        have HB5 := Lib.hid hB5
        clear hB5 hB4 hH4
        go_wp2_with fail
        refine hK.out _ _ (fun _ => HB5.out.2.1) ?_
        clear hK K
        try simp only [Act.put, List.setIfInBounds_toArray, List.set_cons_zero, List.set_cons_succ]
        refine B.Till.done (by kernel_rfl) ?_
-- TILL 1 END
        go_wp2_with fail
        go_roundw
        case rel => exact ⟨QX, out ++ PX.data.toList ++ S, by rw [← hqx], HB5, Lib.hid (by rw [HPost.out, HPre.out]; exact HFin.out.1), by omega, HSs, by rw [HPre.out]; exact HFin.out.2⟩
        case measure => simp [szOf, hqx]; omega
end Go.Proofs.YtigkdehaepenhaaGreatDoor.J

namespace Go.Proofs.YtigkdehaepenhaaGreatDoor.J
open Go.Proofs.YtigkdehaepenhaaGreatDoor.B
open Go.RowKit

theorem sizeNode : (Tryz.prog.info? 62).map (·.size) = some 13 := by kernel_rfl
set_option maxRecDepth 100000 in
set_option maxHeartbeats 8000000 in
theorem formatOk_any (fp : Value) (id le : Int) (n : P.Nv) (nm lt f : ByteArray) (qf : ByteArray → ByteArray) (w : World)
    (HN : ∀ X : World, Below w.heap.size w X → Calls Tryz.prog 21 #[fp, .int .i64 id] X fun e w' => e = .returned (.tuple #[P.nodeV n, .int .i64 0]) ∧ Below X.heap.size X w')
    (HL : ∀ X : World, Below w.heap.size w X → Calls Tryz.prog 22 #[fp, .int .i64 id] X fun e w' => e = .returned (.tuple #[.string lt, .int .i64 le]) ∧ Below X.heap.size X w')
    (ht : FTab w) (hN : NumJ n) (hq : (78 : UInt8) ∈ f.data.toList → QJ qf w) (hn : nm.size ≤ 60000) (hl : lt.size ≤ 60000) (hf : f.size ≤ 1000) (hqs : (quotB qf n.kind nm lt).size ≤ 900000) :
    Calls Tryz.prog 9 #[fp, .int .i64 id, .string nm, .string f] w fun e w' => e = .returned (.tuple #[.string (txt (fmtJ n nm.data.toList (quotB qf n.kind nm lt).data.toList f.data.toList)), .int .i64 0]) ∧ Below w.heap.size w w' := by
  have HNd := Lib.hid HN
  have HLk := Lib.hid HL
  have HWr := Lib.hid (fun (W : World) (hb : Below w.heap.size w W) => written_any n nm lt qf f W (ht.keep hb) hN (fun e => (hq e).keep hb) hn hl hf hqs)
  clear HN HL ht hN hq hqs
  generalize txt (fmtJ n nm.data.toList (quotB qf n.kind nm lt).data.toList f.data.toList) = R at HWr ⊢
  unfold P.nodeV at HNd
  unfold subV subC at HWr
  go_enter Tryz.func9, Tryz.ntmps9
  go_upto_region 1 with fail
  go_upto_region 2 with (first
    | (go_at_call 21; refine (HNd.out _ (Below.refl _ _)).mono ?_; rintro e w2 ⟨rfl, hb2⟩; have HB2 := Lib.hid hb2; clear hb2)
    | (refine wpList_store_row rfl 62 (.tmp 10) (.tmp 18) rfl w2.heap.size #[.int .i64 n.dev, .int .i64 n.ino, .int .i64 n.kind, .int .i64 n.mode, .int .i64 n.uid, .int .i64 n.gid, .int .i64 n.size, .int .i64 n.blocks, .int .i64 n.links, .int .i64 n.ta, .int .i64 n.tb, .int .i64 n.tc, .string n.target] rfl rfl 62 _ (heap_alloc_new _ _) sizeNode rfl (ndC_one n) ?_; rw [World.setRow_alloc_new]))
  have HX3 := Lib.hid (heap_alloc_new w2 (.cells #[.int .i64 n.dev, .int .i64 n.ino, .int .i64 n.kind, .int .i64 n.mode, .int .i64 n.uid, .int .i64 n.gid, .int .i64 n.size, .int .i64 n.blocks, .int .i64 n.links, .int .i64 n.ta, .int .i64 n.tb, .int .i64 n.tc, .string n.target] 62))
  have HB3 := Lib.hid (show Below w.heap.size w (w2.alloc (.cells #[.int .i64 n.dev, .int .i64 n.ino, .int .i64 n.kind, .int .i64 n.mode, .int .i64 n.uid, .int .i64 n.gid, .int .i64 n.size, .int .i64 n.blocks, .int .i64 n.links, .int .i64 n.ta, .int .i64 n.tb, .int .i64 n.tc, .string n.target] 62)) from HB2.out.alloc HB2.out.size _)
  generalize w2.alloc (.cells _ 62) = w3 at HX3 HB3 ⊢
  generalize w2.heap.size = B2 at HX3 ⊢
  clear HB2 HNd
  go_upto_region 5 with (go_at_call 22; refine (HLk.out _ (by with_reducible exact HB3.out)).mono ?_; rintro e w4 ⟨rfl, hb4⟩; have HB4 := Lib.hid (below_two HB3.out hb4); have HX4 := Lib.hid ((hb4.block _ (heap_lt HX3.out)).trans HX3.out); clear hb4)
  clear HX3 HB3 HLk
  go_wp2_with (refine wpList_load_row rfl 62 (.tmp 10) rfl B2 rfl 62 _ (0, 0) _ HX4.out Tryz.underlying62 rfl sizeNode ?_)
  refine (HWr.out _ (by with_reducible exact HB4.out)).mono ?_
  rintro e w5 ⟨rfl, hb5⟩
  have HB5 := Lib.hid (below_two HB4.out hb5)
  clear hb5
  go_wp2_with fail
  go_ret2
  exact ⟨rfl, HB5.out⟩
set_option maxRecDepth 100000 in
set_option maxHeartbeats 4000000 in
theorem formatNo_any (fp : Value) (id er : Int) (n : P.Nv) (nm f : ByteArray) (w : World) (he : er ≠ 0)
    (HN : ∀ X : World, Below w.heap.size w X → Calls Tryz.prog 21 #[fp, .int .i64 id] X fun e w' => e = .returned (.tuple #[P.nodeV n, .int .i64 er]) ∧ Below X.heap.size X w') :
    Calls Tryz.prog 9 #[fp, .int .i64 id, .string nm, .string f] w fun e w' => e = .returned (.tuple #[.string ⟨#[]⟩, .int .i64 er]) ∧ Below w.heap.size w w' := by
  have HNd := Lib.hid HN
  have d0 : (er != 0) = true := by simpa using he
  clear HN he
  unfold P.nodeV at HNd
  go_enter Tryz.func9, Tryz.ntmps9
  go_upto_region 1 with fail
  go_upto_region 2 with (first
    | (go_at_call 21; refine (HNd.out _ (Below.refl _ _)).mono ?_; rintro e w2 ⟨rfl, hb2⟩; have HB2 := Lib.hid hb2; clear hb2)
    | (refine wpList_store_row rfl 62 (.tmp 10) (.tmp 18) rfl w2.heap.size #[.int .i64 n.dev, .int .i64 n.ino, .int .i64 n.kind, .int .i64 n.mode, .int .i64 n.uid, .int .i64 n.gid, .int .i64 n.size, .int .i64 n.blocks, .int .i64 n.links, .int .i64 n.ta, .int .i64 n.tb, .int .i64 n.tc, .string n.target] rfl rfl 62 _ (heap_alloc_new _ _) sizeNode rfl (ndC_one n) ?_; rw [World.setRow_alloc_new]))
  have HB3 := Lib.hid (show Below w.heap.size w (w2.alloc (.cells #[.int .i64 n.dev, .int .i64 n.ino, .int .i64 n.kind, .int .i64 n.mode, .int .i64 n.uid, .int .i64 n.gid, .int .i64 n.size, .int .i64 n.blocks, .int .i64 n.links, .int .i64 n.ta, .int .i64 n.tb, .int .i64 n.tc, .string n.target] 62)) from HB2.out.alloc HB2.out.size _)
  generalize w2.alloc (.cells _ 62) = w3 at HB3 ⊢
  clear HB2 HNd
  go_wp2_with fail
  go_ret2
  exact ⟨rfl, HB3.out⟩
end Go.Proofs.YtigkdehaepenhaaGreatDoor.J

namespace Go.Proofs.YtigkdehaepenhaaGreatDoor.J
open Go.ChangeShapes Go.WideShapes Go.ChangeAt Go.RowKit Go.Deep

theorem own : ownKnob Tryz.prog.godebug = none := by kernel_rfl
theorem laidOut : laidOutB Tryz.prog = true := by kernel_rfl
theorem gPow : Tryz.prog.globalNamed "internal/strconv.uint64pow10" = some 4 := by kernel_rfl
theorem gPowType : (Tryz.prog.globals[4]?).map (·.type) = some 201 := by kernel_rfl
theorem cellsPow : Tryz.prog.cellsOf 201 = 20 := by kernel_rfl
theorem cellsU64 : Tryz.prog.cellsOf 117 = 1 := by kernel_rfl
def tz64 : List Int := [0, 1, 56, 2, 57, 49, 28, 3, 61, 58, 42, 50, 38, 29, 17, 4, 62, 47, 59, 36, 45, 43, 51, 22, 53, 39, 33, 30, 24, 18, 12, 5, 63, 55, 48, 27, 60, 41, 37, 16, 46, 35, 44, 21, 52, 32, 23, 11, 54, 26, 40, 15, 34, 20, 31, 10, 25, 14, 19, 9, 13, 8, 7, 6]
theorem gTz : Tryz.prog.globalNamed "math/bits.deBruijn64tab" = some 8 := by kernel_rfl
theorem gTzType : (Tryz.prog.globals[8]?).map (·.type) = some 213 := by kernel_rfl
theorem cellsTz : Tryz.prog.cellsOf 213 = 64 := by kernel_rfl
theorem cellsU8 : Tryz.prog.cellsOf 5 = 1 := by kernel_rfl
theorem tab_of {X : World} {a b c : String × DataW Unit} (h : laidMet Tryz.prog [a, ("math/bits.deBruijn64tab", Rows.laid_math_bits_deBruijn64tab), ("internal/strconv.uint64pow10", Rows.laid_internal_strconv_uint64pow10), b, ("domesday/perm.classes", Rows.laid_domesday_perm_classes), c] X) : FTab X := by
  have t1 : Lib.TabIs Tryz.prog X "math/bits.deBruijn64tab" .u8 tz64 := Lib.tabIs_of_head gTz gTzType Tryz.underlying213 Tryz.underlying5 cellsU8 cellsTz h.tail
  have t2 : Lib.TabIs Tryz.prog X "internal/strconv.uint64pow10" .u64 Lib.pow10Tab := Lib.tabIs_of_head gPow gPowType Tryz.underlying201 Tryz.underlying117 cellsU64 cellsPow h.tail.tail
  exact ⟨G.tab_of h.tail.tail.tail, t2, ⟨t1.cell gTz 7 (by decide), t1.cell gTz 15 (by decide)⟩⟩
end Go.Proofs.YtigkdehaepenhaaGreatDoor.J

namespace Go.Proofs.YtigkdehaepenhaaGreatDoor.J
open Go.Proofs.YtigkdehaepenhaaGreatDoor.B
open Go.ChangeShapes Go.WideShapes Go.ChangeAt Go.RowKit Go.Deep

theorem okWide_arr {P : Program} {w : World} {r : Reach} {base : Nat} {t e : TypeId} {n : Nat} {v : Value} (ht : P.underlying t = some (.array n e)) (h : Value.okWide P w r base t v) : ∃ cs, v = .agg cs ∧ cs.size = P.cellsOf t := by
  simp only [Value.okWide, ht] at h
  obtain ⟨cs, h1, h2, _⟩ := h
  exact ⟨cs, h1, h2⟩
theorem cells3S : Tryz.prog.cellsOf 23 = 3 := by kernel_rfl
set_option maxRecDepth 100000 in
theorem three_of {H : Type} {enc : TypeId × Value → H} {W : World} {r : Reach} {b0 base : Nat} {sp : Nat → Bool} {held : Bool} {v : Value} {x : DataW H} {p : List MemPlace}
    (hv : Value.okWide Tryz.prog W r b0 23 v) (h : DataW.Trod enc Tryz.prog W base sp held 23 v x p) :
    ∃ a b c : ByteArray, v = .agg #[.string a, .string b, .string c] ∧ a.size ≤ 9223372036854775807 ∧ b.size ≤ 9223372036854775807 ∧ c.size ≤ 9223372036854775807 := by
  obtain ⟨cs, rfl, hsz⟩ := okWide_arr Tryz.underlying23 hv
  obtain ⟨fuel, h⟩ := h
  obtain ⟨xs, m, _, _, _, hxl, ha⟩ := DataW.trod_array Tryz.underlying23 h
  rw [cells3S] at hsz
  have a0 := ha 0 (by decide)
  have a1 := ha 1 (by decide)
  have a2 := ha 2 (by decide)
  clear ha
  obtain ⟨l⟩ := cs
  match l, hsz, xs, hxl with
  | [c0, c1, c2], _, [y0, y1, y2], _ =>
    simp [Value.cells, V.cellsStr] at a0 a1 a2
    obtain ⟨s0, e0, _, g0⟩ := DataW.trod_string Tryz.underlying9 a0
    obtain ⟨s1, e1, _, g1⟩ := DataW.trod_string Tryz.underlying9 a1
    obtain ⟨s2, e2, _, g2⟩ := DataW.trod_string Tryz.underlying9 a2
    simp at e0 e1 e2
    exact ⟨s0, s1, s2, by rw [e0, e1, e2], V.le_max_of g0, V.le_max_of g1, V.le_max_of g2⟩
theorem cells2S : Tryz.prog.cellsOf 39 = 2 := by kernel_rfl
set_option maxRecDepth 100000 in
theorem twoS_of {H : Type} {enc : TypeId × Value → H} {W : World} {r : Reach} {b0 base : Nat} {sp : Nat → Bool} {held : Bool} {v : Value} {x : DataW H} {p : List MemPlace}
    (hv : Value.okWide Tryz.prog W r b0 39 v) (h : DataW.Trod enc Tryz.prog W base sp held 39 v x p) :
    ∃ a b : ByteArray, v = .agg #[.string a, .string b] ∧ a.size ≤ 9223372036854775807 ∧ b.size ≤ 9223372036854775807 := by
  obtain ⟨cs, rfl, hsz⟩ := okWide_arr Tryz.underlying39 hv
  obtain ⟨fuel, h⟩ := h
  obtain ⟨xs, m, _, _, _, hxl, ha⟩ := DataW.trod_array Tryz.underlying39 h
  rw [cells2S] at hsz
  have a0 := ha 0 (by decide)
  have a1 := ha 1 (by decide)
  clear ha
  obtain ⟨l⟩ := cs
  match l, hsz, xs, hxl with
  | [c0, c1], _, [y0, y1], _ =>
    simp [Value.cells, V.cellsStr] at a0 a1
    obtain ⟨s0, e0, _, g0⟩ := DataW.trod_string Tryz.underlying9 a0
    obtain ⟨s1, e1, _, g1⟩ := DataW.trod_string Tryz.underlying9 a1
    simp at e0 e1
    exact ⟨s0, s1, by rw [e0, e1], V.le_max_of g0, V.le_max_of g1⟩
end Go.Proofs.YtigkdehaepenhaaGreatDoor.J

namespace Go.Proofs.YtigkdehaepenhaaGreatDoor.J
open Go.Proofs.YtigkdehaepenhaaGreatDoor.B

structure OkJ (n : V.Nd) : Prop where
  size : I64 n.size
  blk : 0 ≤ n.blocks ∧ n.blocks ≤ 9223372036854775807
  t0 : I64 n.t0
  t1 : I64 n.t1
  t2 : I64 n.t2
  uid : I64 n.uid
  gid : I64 n.gid
  m0 : 0 ≤ n.mode
  m1 : n.mode < 4096
  kind : n.kind = 1 ∨ n.kind = 2 ∨ n.kind = 3
  tgt : n.target.size ≤ 5000
def OkM (M : List V.Nd) : Prop := ∀ n ∈ M, OkJ n
theorem ok_mod {M : List V.Nd} {i : Nat} {f : V.Nd → V.Nd} (h : OkM M) (hf : ∀ n, OkJ n → OkJ (f n)) : OkM (M.modify i f) := V.all_modify (P := OkJ) (P' := OkJ) h (fun _ q => q) hf
theorem ok_app {M : List V.Nd} {n : V.Nd} (h : OkM M) (hn : OkJ n) : OkM (M ++ [n]) := fun x hx => by
  rcases List.mem_append.1 hx with hx | hx
  · exact h x hx
  · obtain rfl := List.mem_singleton.1 hx; exact hn
theorem ok_added {n : V.Nd} {d : Int} {M : List V.Nd} (h : OkJ n) : OkJ (V.addedNd n d M) := ⟨h.size, h.blk, h.t0, h.t1, h.t2, h.uid, h.gid, h.m0, h.m1, h.kind, h.tgt⟩
theorem zero64 : I64 0 := i64_small (by decide) (by decide)
theorem ok_dir {m u : Int} (h0 : 0 ≤ m) (h1 : m < 4096) : OkJ (V.dirNd m u) := ⟨i64_small (show (0 : Int) ≤ 4096 by decide) (show (4096 : Int) ≤ _ by decide), ⟨(by decide : (0 : Int) ≤ 8), (by decide : (8 : Int) ≤ 9223372036854775807)⟩, zero64, zero64, zero64, zero64, zero64, h0, h1, .inr (.inl rfl), Nat.zero_le _⟩
theorem ok_new : OkM V.newM := fun n hn => by
  obtain rfl : n = V.addedNd (V.dirNd 493 0) 1 [] := by simpa [V.newM] using hn
  exact ok_added (ok_dir (by decide) (by decide))
theorem blk_bd {n : Int} (h : 0 ≤ n) (h2 : n ≤ 9223372036854775807) : 0 ≤ V.blkOf n ∧ V.blkOf n ≤ 9223372036854775807 := by
  unfold V.blkOf
  split <;> omega
theorem file_size {M : List V.Nd} {c : V.Chg} (h : V.wrongM M c = 0) (hk : c.kind = 1) : 0 ≤ c.n := by
  unfold V.wrongM V.refuseE at h
  have hb : V.baseE (V.atM M) c = 0 := by
    split at h
    · cases h
    · exact h
  unfold V.baseE at hb
  rw [if_pos (by omega)] at hb
  unfold V.entryE at hb
  split at hb
  · cases hb
  · repeat' split at hb
    all_goals first | (cases hb; done) | omega
theorem ok_file {m n b : Int} (h0 : 0 ≤ m) (h1 : m < 4096) (h : I64 n) (hb : 0 ≤ b ∧ b ≤ 9223372036854775807) : OkJ (V.fileNd m n b) := ⟨h, hb, zero64, zero64, zero64, zero64, zero64, h0, h1, .inl rfl, Nat.zero_le _⟩
theorem ok_link {s : ByteArray} (h : s.size ≤ 5000) : OkJ (V.linkNd s) := ⟨i64_small (show (0 : Int) ≤ (s.size : Int) by omega) (show (s.size : Int) ≤ _ by omega), ⟨(by decide : (0 : Int) ≤ 0), (by decide : (0 : Int) ≤ 9223372036854775807)⟩, zero64, zero64, zero64, zero64, zero64, (by decide : (0 : Int) ≤ 511), (by decide : (511 : Int) < 4096), .inr (.inr rfl), h⟩
theorem ok_more {n : V.Nd} (h : OkJ n) : OkJ (V.moreLinks n) := ⟨h.size, h.blk, h.t0, h.t1, h.t2, h.uid, h.gid, h.m0, h.m1, h.kind, h.tgt⟩
theorem ok_ent {s : ByteArray} {i : Int} {n : V.Nd} (h : OkJ n) : OkJ (V.addEnt s i n) := ⟨h.size, h.blk, h.t0, h.t1, h.t2, h.uid, h.gid, h.m0, h.m1, h.kind, h.tgt⟩
theorem ok_over {i : Int} {n : V.Nd} (h : OkJ n) : OkJ (V.setOver i n) := ⟨h.size, h.blk, h.t0, h.t1, h.t2, h.uid, h.gid, h.m0, h.m1, h.kind, h.tgt⟩
theorem ok_built {M : List V.Nd} {i : Nat} {s : ByteArray} {n : V.Nd} {d : Int} (h : OkM M) (hn : OkJ n) : OkM (V.builtM M i s n d) :=
  ok_mod (ok_mod (ok_app h (ok_added hn)) fun _ q => ok_ent q) fun _ q => ok_more q
theorem max_bd {x : Int} (h : I64 x) : I64 (V.maxI x 0) := by
  obtain ⟨h0, h1⟩ := h
  unfold I64 V.maxI
  split <;> omega
theorem mode_bd (x : Int) : 0 ≤ x % 4096 ∧ x % 4096 < 4096 := by omega
theorem ok_set {c : V.Chg} {n : V.Nd} (h : I64 c.n) (ha : I64 c.a) (hb : I64 c.b) (q : OkJ n) : OkJ (V.setNd c n) := by
  unfold V.setNd
  repeat' split
  all_goals first
    | exact ⟨q.size, q.blk, q.t0, q.t1, q.t2, q.uid, q.gid, (mode_bd _).1, (mode_bd _).2, q.kind, q.tgt⟩
    | exact ⟨q.size, q.blk, q.t0, q.t1, q.t2, max_bd ha, max_bd hb, q.m0, q.m1, q.kind, q.tgt⟩
    | exact ⟨q.size, q.blk, q.t0, q.t1, q.t2, q.uid, q.gid, q.m0, q.m1, q.kind, q.tgt⟩
    | exact ⟨q.size, q.blk, h, q.t1, q.t2, q.uid, q.gid, q.m0, q.m1, q.kind, q.tgt⟩
    | exact ⟨q.size, q.blk, q.t0, h, q.t2, q.uid, q.gid, q.m0, q.m1, q.kind, q.tgt⟩
    | exact ⟨q.size, q.blk, q.t0, q.t1, h, q.uid, q.gid, q.m0, q.m1, q.kind, q.tgt⟩
theorem ok_do {M : List V.Nd} {c : V.Chg} (h : OkM M) (hn : I64 c.n) (ha : I64 c.a) (hb : I64 c.b) (ht : c.text.size ≤ 5000) : OkM (V.doM M c) := by
  unfold V.doM
  split
  · rename_i hw
    unfold V.carryM
    split
    · exact ok_built h (ok_dir (mode_bd _).1 (mode_bd _).2)
    · split
      · rename_i hk
        exact ok_built h (ok_file (mode_bd _).1 (mode_bd _).2 hn (blk_bd (file_size hw hk) hn.2))
      · split
        · exact ok_mod (ok_mod h fun _ q => ok_ent q) fun _ q => ok_more q
        · split
          · exact ok_built h (ok_link ht)
          · split
            · exact ok_mod (ok_app h (ok_added (ok_dir (mode_bd _).1 (mode_bd _).2))) fun _ q => ok_over q
            · exact ok_mod h fun n q => ok_set hn ha hb q
  · exact h
theorem runM_ok : ∀ (cs : List V.Chg) (M : List V.Nd), (∀ c ∈ cs, I64 c.n ∧ I64 c.a ∧ I64 c.b ∧ c.text.size ≤ 5000) → OkM M → OkM (V.runM cs M)
  | [], M, _, h => h
  | c :: r, M, hc, h => runM_ok r (V.doM M c) (fun x hx => hc x (List.mem_cons_of_mem _ hx)) (ok_do h (hc c List.mem_cons_self).1 (hc c List.mem_cons_self).2.1 (hc c List.mem_cons_self).2.2.1 (hc c List.mem_cons_self).2.2.2)
/-- What the facts of nodes ask of them. -/
structure GoodJ (M : List V.Nd) : Prop where
  pos : 0 < M.length
  few : M.length ≤ 300
  dev : V.DevInv M
  lnk : ∀ n ∈ M, 0 ≤ n.links ∧ n.links ≤ 402
  ok : OkM M
theorem few_text' {cs : List V.Chg} (h : V.FewL cs) (hl : cs.length ≤ 400) : ∀ c ∈ cs, c.text.size ≤ 5000 := fun c hc => by
  obtain ⟨k, hk, e⟩ := List.getElem_of_mem hc
  exact (h k c (by omega) (by rw [← e]; exact List.getElem?_eq_getElem hk)).2
theorem good_run (cs : List V.Chg) (hl : cs.length ≤ 400) (hf : V.FewL cs) (hn : ∀ c ∈ cs, I64 c.n ∧ I64 c.a ∧ I64 c.b) : GoodJ (V.runM cs V.newM) := by
  have hs := V.runM_small cs V.newM 0 V.new_small
  refine ⟨V.runM_pos cs V.newM (by decide), hs.1, V.runM_dev cs V.newM V.devInv_new, fun n hm => ?_, runM_ok cs V.newM (fun c hc => ⟨(hn c hc).1, (hn c hc).2.1, (hn c hc).2.2, few_text' hf hl c hc⟩) ok_new⟩
  have h3 := hs.2 n hm
  omega
theorem good_new : GoodJ V.newM := good_run [] (by simp) (fun k c hk hc => by simp at hc) (fun c hc => by cases hc)
theorem GoodJ.text {M : List V.Nd} (h : GoodJ M) (i : Int) : (V.linkT M i).size ≤ 5000 := by
  unfold V.linkT
  split
  · exact Nat.zero_le _
  · rename_i n hn
    obtain ⟨k, _, hk⟩ := V.atM_some hn
    have q := h.ok n (List.mem_of_getElem? hk)
    repeat' split
    · exact Nat.zero_le _
    · exact q.tgt
    · exact Nat.zero_le _
theorem GoodJ.num {M : List V.Nd} (h : GoodJ M) {i : Int} {x : V.Nd} (hx : V.atM M i = some x) : NumJ (V.nvAt M i) := by
  obtain ⟨k, _, hk⟩ := V.atM_some hx
  have hm := List.mem_of_getElem? hk
  have q := h.ok x hm
  have h1 := h.dev k x hk
  have h2 := V.cntD_bd x.dev (M.take k)
  have h3 := h.lnk x hm
  have h5 := h.few
  have h6 : (M.take k).length ≤ 300 := by rw [List.length_take]; omega
  have h7 := V.devL_len M 0
  have e : V.nvAt M i = V.nvOf x := by unfold V.nvAt; rw [hx]
  rw [e]
  exact ⟨q.size, ⟨(show -9223372036854775808 ≤ x.blocks by have := q.blk; omega), q.blk.2⟩, q.t0, q.t1, q.t2, q.uid, q.gid, i64_small (show 0 ≤ x.ino by omega) (show x.ino ≤ _ by omega), i64_small (show 0 ≤ x.dev by omega) (show x.dev ≤ _ by omega), i64_small (show 0 ≤ x.links by omega) (show x.links ≤ _ by omega), q.m0, q.m1, q.kind⟩
end Go.Proofs.YtigkdehaepenhaaGreatDoor.J

namespace Go.Proofs.YtigkdehaepenhaaGreatDoor.J
open Go.Proofs.YtigkdehaepenhaaGreatDoor.B
open Go.RowKit

/-- What a format tells of the node number i; nothing, if there is none. -/
def fmtA (M : List V.Nd) (qf : ByteArray → ByteArray) (i : Int) (nm f : ByteArray) : ByteArray := if V.nodeEr M i = 0 then txt (fmtJ (V.nvAt M i) nm.data.toList (quotB qf (V.nvAt M i).kind nm (V.linkT M i)).data.toList f.data.toList) else ⟨#[]⟩
theorem quot_size {M : List V.Nd} (hG : GoodJ M) {qf : ByteArray → ByteArray} (hq : ∀ s : ByteArray, s.size ≤ 60000 → (qf s).size ≤ 7 * s.size + 2) (i k : Int) {nm : ByteArray} (hn : nm.size ≤ 60000) : (quotB qf k nm (V.linkT M i)).size ≤ 900000 := by
  have h3 := hG.text i
  have h1 := hq nm hn
  have h2 := hq (V.linkT M i) (by omega)
  unfold quotB
  split
  · rw [ByteArray.size_append, ByteArray.size_append]
    have : arrow.size = 4 := rfl
    omega
  · omega
theorem format_any {M : List V.Nd} {p : Nat} (i : Int) (nm f : ByteArray) (qf : ByteArray → ByteArray) (v0 w : World) (hf : V.Has v0 p M w) (hG : GoodJ M) (ht : FTab w) (hq : (78 : UInt8) ∈ f.data.toList → QJ qf w) (hn : nm.size ≤ 60000) (hz : f.size ≤ 1000) (hqs : (quotB qf (V.nvAt M i).kind nm (V.linkT M i)).size ≤ 900000) :
    Calls Tryz.prog 9 #[.pointer (some ⟨p, 0, none⟩), .int .i64 i, .string nm, .string f] w fun e w' => e = .returned (.tuple #[.string (fmtA M qf i nm f), .int .i64 (V.nodeEr M i)]) ∧ Below w.heap.size w w' := by
  have hN : ∀ X : World, Below w.heap.size w X → Calls Tryz.prog 21 #[.pointer (some ⟨p, 0, none⟩), .int .i64 i] X fun e w' => e = .returned (.tuple #[P.nodeV (V.nvAt M i), .int .i64 (V.nodeEr M i)]) ∧ Below X.heap.size X w' := fun X hb => by
    have := V.has_nodeI i (hf.keep hb) hG.pos
    rw [V.nodeV_nv] at this
    exact this
  cases ha : V.atM M i with
  | none =>
    have he : V.nodeEr M i = 2 := by unfold V.nodeEr; rw [ha]
    rw [he] at hN
    have hA : fmtA M qf i nm f = ⟨#[]⟩ := by unfold fmtA; rw [if_neg (by rw [he]; decide)]
    rw [he, hA]
    exact formatNo_any _ i 2 _ nm f w (by decide) hN
  | some x =>
    have he : V.nodeEr M i = 0 := by unfold V.nodeEr; rw [ha]
    rw [he] at hN
    have hA : fmtA M qf i nm f = txt (fmtJ (V.nvAt M i) nm.data.toList (quotB qf (V.nvAt M i).kind nm (V.linkT M i)).data.toList f.data.toList) := by unfold fmtA; rw [if_pos he]
    rw [he, hA]
    refine formatOk_any _ i (V.linkE M i) _ nm _ f qf w hN (fun X hb => (V.has_link i (hf.keep hb) hG.pos).mono ?_) ht (hG.num ha) hq hn (Nat.le_trans (hG.text i) (by decide)) hz hqs
    rintro e w' ⟨rfl, rfl⟩
    exact ⟨rfl, Below.refl _ _⟩
theorem new_fmt (n : P.Nv) (h : n.mode = 493) (qt : By) : fmtJ n [114] qt [37, 110, 32, 37, 97] = [114, 32, 55, 53, 53] := by
  unfold fmtJ
  rw [S.fmtL_told _ _ (show oneJ n [114] qt 110 = some [114] from rfl), S.fmtL_plain _ _ (by decide), S.fmtL_told _ _ (show oneJ n [114] qt 97 = some (octL n.mode) from rfl), S.fmtL_nil, h]
  decide +kernel

set_option maxHeartbeats 2000000 in
theorem awoken_any (w : World) (ht : FTab w) : Calls Tryz.prog 6 #[] w fun e w' => e = .returned (.bool true) ∧ Below w.heap.size w w' := by
  have HT := Lib.hid ht
  have HN := Lib.hid (V.new_any w)
  have hA : fmtA V.newM id 0 ⟨#[114]⟩ ⟨#[37, 110, 32, 37, 97]⟩ = ⟨#[114, 32, 55, 53, 53]⟩ := by
    unfold fmtA
    rw [if_pos (by decide +kernel)]
    have := new_fmt (V.nvAt V.newM 0) (by decide +kernel) (quotB id (V.nvAt V.newM 0).kind ⟨#[114]⟩ (V.linkT V.newM 0)).data.toList
    show txt (fmtJ _ [114] _ [37, 110, 32, 37, 97]) = _
    rw [this]
    rfl
  have he : V.nodeEr V.newM 0 = 0 := by decide +kernel
  have HF := Lib.hid (fun (p : Nat) (X : World) (h : V.Has w p V.newM X) => format_any 0 ⟨#[114]⟩ ⟨#[37, 110, 32, 37, 97]⟩ id w X h good_new (HT.out.keep h.below) (fun q => absurd q (by decide +kernel)) (by decide) (by decide) (by decide +kernel))
  rw [hA, he] at HF
  clear ht hA he
  go_enter Tryz.func6, Tryz.ntmps6
  go_wp2_with (first
    | (go_at_call 17; refine HN.out.mono ?_; rintro e w2 ⟨p, rfl, H2⟩; have HH2 := Lib.hid H2; clear H2)
    | (go_at_call 9; refine (HF.out _ _ HH2.out).mono ?_; rintro e w3 ⟨rfl, hb⟩; have HB3 := Lib.hid (HH2.out.below.trans (hb.mono HH2.out.below.size)); clear hb))
  go_ret
  exact ⟨rfl, HB3.out⟩
end Go.Proofs.YtigkdehaepenhaaGreatDoor.J

namespace Go.Proofs.YtigkdehaepenhaaGreatDoor.JQ
open Go.ChangeShapes Go.WideShapes Go.ChangeAt Go.RowKit Go.Deep

theorem own : ownKnob Tryz.prog.godebug = none := J.own
theorem laidOut : laidOutB Tryz.prog = true := J.laidOut
structure QTab (w : World) : Prop where
  f : J.FTab w
  q : Q.Tab w
theorem tab_of {X : World} (h : laidMet Tryz.prog [("math/bits.deBruijn32tab", Rows.laid_math_bits_deBruijn32tab), ("math/bits.deBruijn64tab", Rows.laid_math_bits_deBruijn64tab), ("internal/strconv.uint64pow10", Rows.laid_internal_strconv_uint64pow10), ("unicode/utf8.acceptRanges", Rows.laid_unicode_utf8_acceptRanges), ("domesday/perm.classes", Rows.laid_domesday_perm_classes), ("unicode/utf8.first", Rows.laid_unicode_utf8_first)] X) (hsh : X.ShapedOpen Tryz.prog) : QTab X := by
  refine ⟨J.tab_of h, utf8Tabs_of_reads { Tryz.lays197 with } Q.u8Extra ?_ ?_, Tryz.laysM155.s1_3 X hsh⟩
  · rw [← Q.first_is]; exact Lib.laidMet.reads h (by simp)
  · rw [← Q.accept_is]; exact Lib.laidMet.reads h (by simp)
/-- A name in the quotes in which a directive writes it. -/
def quoB (s : ByteArray) : ByteArray := Q.T (Q.quoteP 1 (Q.L s))
theorem quoB_size (s : ByteArray) : (quoB s).size ≤ 7 * s.size + 2 := by
  have := Q.quoteP_len 1 (Q.L s)
  rw [Q.L_len] at this
  unfold quoB
  rw [← Q.L_len]
  exact this
theorem qj {w : World} (ht : Q.Tab w) : J.QJ quoB w := ⟨fun s X hs hX => Q.quote_any 1 s X (ht.keep hX) (by omega), fun s _ => quoB_size s⟩
end Go.Proofs.YtigkdehaepenhaaGreatDoor.JQ

namespace Go.Proofs.YtigkdehaepenhaaGreatDoor.J
open Go.Proofs.YtigkdehaepenhaaGreatDoor.B
open Go.RowKit

theorem fmtA_size {M : List V.Nd} (hG : GoodJ M) {qf : ByteArray → ByteArray} (hq : ∀ s : ByteArray, s.size ≤ 60000 → (qf s).size ≤ 7 * s.size + 2) (i : Int) {nm f : ByteArray} (hn : nm.size ≤ 60000) : (fmtA M qf i nm f).size ≤ 900000 * f.size := by
  unfold fmtA
  split
  · rename_i he
    obtain ⟨x, hx⟩ : ∃ x, V.atM M i = some x := by
      unfold V.nodeEr at he
      cases ha : V.atM M i with
      | none => rw [ha] at he; exact absurd he (by decide)
      | some x => exact ⟨x, rfl⟩
    have h1 : nm.data.toList.length ≤ 900000 := by rw [size_list]; omega
    have h2 : (quotB qf (V.nvAt M i).kind nm (V.linkT M i)).data.toList.length ≤ 900000 := by rw [size_list]; exact quot_size hG hq i _ hn
    have := fmtJ_len (hG.num hx) h1 h2 (by omega) f.data.toList
    rw [size_list] at this
    rw [txt_size]
    exact this
  · exact Nat.zero_le _
theorem fmtA_append {M : List V.Nd} {qf : ByteArray → ByteArray} {i : Int} {nm : ByteArray} (he : V.nodeEr M i = 0) (f g : ByteArray) (hl : f.data.toList.getLast? ≠ some 37) : fmtA M qf i nm (f ++ g) = fmtA M qf i nm f ++ fmtA M qf i nm g := by
  unfold fmtA
  rw [if_pos he, if_pos he, if_pos he, txt_append, ← fmtJ_append _ _ _ _ _ hl, ByteArray.data_append, Array.toList_append]
theorem last_of (f : ByteArray) (h : 0 < f.size) : f.data.toList.getLast? = some (f[f.size - 1]'(by omega)) := by
  rw [List.getLast?_eq_getElem?, size_list]
  exact list_at (by omega)
theorem sizeRef : (Tryz.prog.info? 32).map (·.size) = some 6 := by kernel_rfl
set_option maxRecDepth 100000 in
set_option maxHeartbeats 16000000 in
theorem joins_any (cs : List V.Chg) (a : Option Addr) (cap : Nat) (id : Int) (nm f g : ByteArray) (qf : ByteArray → ByteArray) (w : World) (H : V.IsChgs w a cs) (ht : FTab w) (hq : QJ qf w) (hl : cs.length ≤ 9223372036854775807) (hw : ∀ c ∈ cs, V.WideC c) (hs0 : nm.size ≤ 9223372036854775807) (hs1 : f.size ≤ 9223372036854775807) (hs2 : g.size ≤ 9223372036854775807) :
    Calls Tryz.prog 3 #[.slice a cs.length cap, .int .i64 id, .agg #[.string nm, .string f, .string g]] w fun e w' => e = .returned (.bool true) ∧ Below w.heap.size w w' := by
  have HFw := Lib.hid (fun X (hb : Below w.heap.size w X) => V.few_any cs a cap 30 X (H.keep hb) hl (fun c hc => ⟨(hw c hc).name, (hw c hc).text⟩))
  have HMd := Lib.hid (fun (X : World) (hb : Below w.heap.size w X) (h4 : cs.length ≤ 400) (hf : V.FewL cs) => V.made_any cs a cap X (H.keep hb) h4 hf (fun c hc => ⟨(hw c hc).lo, (hw c hc).hi⟩))
  have HAw := Lib.hid (fun (X : World) (hb : Below w.heap.size w X) => awoken_any X (ht.keep hb))
  have HGd := Lib.hid (fun (h4 : cs.length ≤ 400) (hf : V.FewL cs) => good_run cs h4 hf (fun c hc => ⟨⟨(hw c hc).lo, (hw c hc).hi⟩, (hw c hc).a, (hw c hc).b⟩))
  have HFm := Lib.hid (fun (M : List V.Nd) (hG : GoodJ M) (p : Nat) (v0 : World) (x : ByteArray) (hx : x.size ≤ 1000) (hn : nm.size ≤ 60000) (X : World) (hb : Below w.heap.size w X) (hf : V.Has v0 p M X) => format_any id nm x qf v0 X hf hG (ht.keep hb) (fun _ => hq.keep hb) hn hx (quot_size hG hq.size id _ hn))
  have HSz := Lib.hid hq.size
  clear H ht hq hw
  go_enter Tryz.func3, Tryz.ntmps3
  go_upto_region 1 with fail
  obtain ⟨B0, hB0⟩ : ∃ B0, w.heap.size = B0 := ⟨_, rfl⟩
  obtain ⟨w1, hw1⟩ : ∃ w1, w.alloc (.cells #[.string nm, .string f, .string g] 23) = w1 := ⟨_, rfl⟩
  have HB1 := Lib.hid (show Below w.heap.size w w1 from by rw [← hw1]; exact (Below.refl _ _).alloc (Nat.le_refl _) _)
  have HX1 := Lib.hid (show w1.heap[B0]? = some (.cells #[.string nm, .string f, .string g] 23) from by rw [← hw1, ← hB0]; exact heap_alloc_new _ _)
  rw [hw1, hB0]
  clear hw1 hB0
  have HKp := Lib.hid (show ∀ X, Below w1.heap.size w1 X → X.cell? ⟨B0, 0, none⟩ = some (.string nm) ∧ X.cell? ⟨B0, 1, none⟩ = some (.string f) ∧ X.cell? ⟨B0, 2, none⟩ = some (.string g) from fun X hX => by
    have q := (hX.block _ (heap_lt HX1.out)).trans HX1.out
    refine ⟨?_, ?_, ?_⟩ <;> (rw [cell_of_row _ _ _ _ _ _ q]; rfl))
  clear HX1
  go_wp2_with fail
  refine (HAw.out _ HB1.out).mono ?_
  rintro e w2 ⟨rfl, hb2⟩
  have HB2 := Lib.hid hb2
  clear hb2
  go_wp2_with fail
  refine (HFw.out _ (below_two HB1.out HB2.out)).mono ?_
  rintro e w3 ⟨b, rfl, hb, hw3⟩
  have HBb := Lib.hid hb
  subst hw3
  have HB3 := Lib.hid HB2.out
  clear hb HB2 HFw
  obtain ⟨k0, k1, k2⟩ := HKp.out _ HB3.out
  cases b with
  | false =>
    go_wp2_with fail
    refine (HAw.out _ (below_two HB1.out HB3.out)).mono ?_
    rintro e w4 ⟨rfl, hb4⟩
    have HB4 := Lib.hid (below_two (below_two HB1.out HB3.out) hb4)
    clear hb4
    go_wp2_with fail
    go_ret
    exact ⟨rfl, HB4.out⟩
  | true =>
    obtain ⟨hfl, hln⟩ := HBb.out.1 rfl
    have HFl := Lib.hid hfl
    clear hfl HBb
    have hl6 : cs.length ≤ 30 := by omega
    by_cases g0 : 60 < nm.size
    · have d0 : decide ((60 : Int) < (nm.size : Int)) = true := decide_eq_true (by omega)
      go_wp2_with fail
      refine (HAw.out _ (below_two HB1.out HB3.out)).mono ?_
      rintro e w4 ⟨rfl, hb4⟩
      have HB4 := Lib.hid (below_two (below_two HB1.out HB3.out) hb4)
      clear hb4
      go_wp2_with fail
      go_ret
      exact ⟨rfl, HB4.out⟩
    · have d0 : decide ((60 : Int) < (nm.size : Int)) = false := decide_eq_false (by omega)
      by_cases g1 : 60 < f.size
      · have d1 : decide ((60 : Int) < (f.size : Int)) = true := decide_eq_true (by omega)
        go_wp2_with fail
        refine (HAw.out _ (below_two HB1.out HB3.out)).mono ?_
        rintro e w4 ⟨rfl, hb4⟩
        have HB4 := Lib.hid (below_two (below_two HB1.out HB3.out) hb4)
        clear hb4
        go_wp2_with fail
        go_ret
        exact ⟨rfl, HB4.out⟩
      · have d1 : decide ((60 : Int) < (f.size : Int)) = false := decide_eq_false (by omega)
        by_cases g2 : 60 < g.size
        · have d2 : decide ((60 : Int) < (g.size : Int)) = true := decide_eq_true (by omega)
          go_wp2_with fail
          refine (HAw.out _ (below_two HB1.out HB3.out)).mono ?_
          rintro e w4 ⟨rfl, hb4⟩
          have HB4 := Lib.hid (below_two (below_two HB1.out HB3.out) hb4)
          clear hb4
          go_wp2_with fail
          go_ret
          exact ⟨rfl, HB4.out⟩
        · have d2 : decide ((60 : Int) < (g.size : Int)) = false := decide_eq_false (by omega)
          go_upto_region 3 with fail
          go_quiet (fail)
          have HB5 := Lib.hid (show Below w1.heap.size w1 (w3.drewN nq) from below_drewNb HB3.out)
          generalize w3.drewN nq = w5 at HB5 ⊢
          clear k0 k1 k2 d0 d1 d2 HB3
          by_cases h0 : 0 < f.size
          · obtain ⟨c, hc⟩ : ∃ c, f[f.size - 1]'(by omega) = c := ⟨_, rfl⟩
            have hlast := last_of f h0
            rw [hc] at hlast
            have i0 : (0 : Int) ≤ (f.size : Int) - 1 := by omega
            have i1 : (f.size : Int) - 1 < (f.size : Int) := by omega
            by_cases h37 : c.toNat = 37
            · clear hlast
              have HBe := Lib.hid (below_two HB1.out HB5.out)
              go_wp2_with fail
              go_ret
              exact ⟨rfl, HBe.out⟩
            · have hn : ((c.toNat : Int) == 37) = false := beq_eq_false_iff_ne.2 (by omega)
              have HLs := Lib.hid (show f.data.toList.getLast? ≠ some 37 from by rw [hlast]; intro e; exact h37 (by rw [Option.some.inj e]; rfl))
              clear hlast h37
              have HG := Lib.hid (HGd.out (by omega) HFl.out)
              have HM := Lib.hid (HMd.out w5 (below_two HB1.out HB5.out) (by omega) HFl.out)
              clear HMd HGd HFl HAw
              generalize V.runM cs V.newM = M at HM HG
              go_upto_region 6 with fail
              go_wp2_with fail
              refine HM.out.mono ?_
              rintro e w6 ⟨p, r, L, rfl, T6, _⟩
              have HF6 := Lib.hid T6.fs
              have HN6 := Lib.hid (V.rs_one T6.rs)
              clear T6 HM
              unfold V.rvV
              go_upto_region 7 with (refine wpList_store_row rfl 32 (.tmp 10) (.tmp 62) rfl w6.heap.size #[r.n, r.l, r.c, r.d, r.a, r.f] rfl rfl 32 V.nilsR (heap_alloc_new _ _) V.sizeRef rfl HN6.out ?_; rw [World.setRow_alloc_new])
              have HA7 := Lib.hid (show Below w6.heap.size w6 (w6.alloc (.cells #[r.n, r.l, r.c, r.d, r.a, r.f] 32)) from (Below.refl _ _).alloc (Nat.le_refl _) _)
              generalize w6.alloc (.cells #[r.n, r.l, r.c, r.d, r.a, r.f] 32) = w7 at HA7 ⊢
              have HF7 := Lib.hid (HF6.out.keep HA7.out)
              have HB7 := Lib.hid (show Below w1.heap.size w1 w7 from HB5.out.trans ((HF6.out.below.trans (HA7.out.mono HF6.out.below.size)).mono HB5.out.size))
              generalize w6.heap.size = B6
              clear HF6 HN6 HA7
              have HFa := Lib.hid (fun (X : World) (hb : Below w7.heap.size w7 X) => HFm.out M HG.out p w5 f (by omega) (by omega) X (below_two HB1.out (HB7.out.trans (hb.mono HB7.out.size))) (HF7.out.keep hb))
              have HFb := Lib.hid (fun (X : World) (hb : Below w7.heap.size w7 X) => HFm.out M HG.out p w5 g (by omega) (by omega) X (below_two HB1.out (HB7.out.trans (hb.mono HB7.out.size))) (HF7.out.keep hb))
              have HFc := Lib.hid (fun (X : World) (hb : Below w7.heap.size w7 X) => HFm.out M HG.out p w5 (f ++ g) (by rw [ByteArray.size_append]; omega) (by omega) X (below_two HB1.out (HB7.out.trans (hb.mono HB7.out.size))) (HF7.out.keep hb))
              have hza := fmtA_size HG.out HSz.out id (nm := nm) (f := f) (by omega)
              have hzb := fmtA_size HG.out HSz.out id (nm := nm) (f := g) (by omega)
              have HJn := Lib.hid (fun (he : V.nodeEr M id = 0) => fmtA_append (qf := qf) (nm := nm) he f g HLs.out)
              have hadd := fun W => run_string_add_sum (P := Tryz.prog) (w := W) f g (by omega)
              generalize fmtA M qf id nm f = XA at HFa hza HJn
              generalize fmtA M qf id nm g = XB at HFb hzb HJn
              generalize fmtA M qf id nm (f ++ g) = XC at HFc HJn
              have hq1 := fun W => run_string_add_sum (P := Tryz.prog) (w := W) XA XB (by omega)
              obtain ⟨q0, q1, q2⟩ := HKp.out _ HB7.out
              go_upto_region 8 with (go_at_call 9; refine (HFa.out _ (Below.refl _ _)).mono ?_; rintro e w8 ⟨rfl, hb8⟩; have HB8 := Lib.hid hb8; clear hb8)
              clear q0 q1 q2 HFa
              obtain ⟨q0, q1, q2⟩ := HKp.out _ (HB7.out.trans (HB8.out.mono HB7.out.size))
              go_upto_region 9 with (go_at_call 9; refine (HFb.out _ HB8.out).mono ?_; rintro e w9 ⟨rfl, hb9⟩; have HB9 := Lib.hid (below_two HB8.out hb9); clear hb9)
              clear q0 q1 q2 HFb
              obtain ⟨q0, q1, q2⟩ := HKp.out _ (HB7.out.trans (HB9.out.mono HB7.out.size))
              go_upto_region 10 with (go_at_call 9; refine (HFc.out _ HB9.out).mono ?_; rintro e w10 ⟨rfl, hb10⟩; have HB10 := Lib.hid (below_two HB9.out hb10); clear hb10)
              clear q0 q1 q2 HFc hadd
              have HBe := Lib.hid (below_two HB1.out (HB7.out.trans (HB10.out.mono HB7.out.size)))
              by_cases he : V.nodeEr M id = 0
              · have hJ := HJn.out he
                rw [← hJ] at hq1
                have d9 : (V.nodeEr M id != 0) = false := by rw [he]; rfl
                have d8 : (XC.toList == XC.toList) = true := beq_self_eq_true _
                clear he hJ hza hzb
                go_wp2_with fail
                go_ret
                exact ⟨rfl, HBe.out⟩
              · have d9 : (V.nodeEr M id != 0) = true := by simpa using he
                clear he hza hzb hq1
                go_wp2_with fail
                go_ret
                exact ⟨rfl, HBe.out⟩
          · have h0' : decide (0 < (f.size : Int)) = false := decide_eq_false (by omega)
            have HLs := Lib.hid (show f.data.toList.getLast? ≠ some 37 from by rw [show f.data.toList = [] from List.eq_nil_of_length_eq_zero (by rw [size_list]; omega)]; simp)
            have HG := Lib.hid (HGd.out (by omega) HFl.out)
            have HM := Lib.hid (HMd.out w5 (below_two HB1.out HB5.out) (by omega) HFl.out)
            clear HMd HGd HFl HAw
            generalize V.runM cs V.newM = M at HM HG
            go_upto_region 6 with fail
            go_wp2_with fail
            refine HM.out.mono ?_
            rintro e w6 ⟨p, r, L, rfl, T6, _⟩
            have HF6 := Lib.hid T6.fs
            have HN6 := Lib.hid (V.rs_one T6.rs)
            clear T6 HM
            unfold V.rvV
            go_upto_region 7 with (refine wpList_store_row rfl 32 (.tmp 10) (.tmp 62) rfl w6.heap.size #[r.n, r.l, r.c, r.d, r.a, r.f] rfl rfl 32 V.nilsR (heap_alloc_new _ _) V.sizeRef rfl HN6.out ?_; rw [World.setRow_alloc_new])
            have HA7 := Lib.hid (show Below w6.heap.size w6 (w6.alloc (.cells #[r.n, r.l, r.c, r.d, r.a, r.f] 32)) from (Below.refl _ _).alloc (Nat.le_refl _) _)
            generalize w6.alloc (.cells #[r.n, r.l, r.c, r.d, r.a, r.f] 32) = w7 at HA7 ⊢
            have HF7 := Lib.hid (HF6.out.keep HA7.out)
            have HB7 := Lib.hid (show Below w1.heap.size w1 w7 from HB5.out.trans ((HF6.out.below.trans (HA7.out.mono HF6.out.below.size)).mono HB5.out.size))
            generalize w6.heap.size = B6
            clear HF6 HN6 HA7
            have HFa := Lib.hid (fun (X : World) (hb : Below w7.heap.size w7 X) => HFm.out M HG.out p w5 f (by omega) (by omega) X (below_two HB1.out (HB7.out.trans (hb.mono HB7.out.size))) (HF7.out.keep hb))
            have HFb := Lib.hid (fun (X : World) (hb : Below w7.heap.size w7 X) => HFm.out M HG.out p w5 g (by omega) (by omega) X (below_two HB1.out (HB7.out.trans (hb.mono HB7.out.size))) (HF7.out.keep hb))
            have HFc := Lib.hid (fun (X : World) (hb : Below w7.heap.size w7 X) => HFm.out M HG.out p w5 (f ++ g) (by rw [ByteArray.size_append]; omega) (by omega) X (below_two HB1.out (HB7.out.trans (hb.mono HB7.out.size))) (HF7.out.keep hb))
            have hza := fmtA_size HG.out HSz.out id (nm := nm) (f := f) (by omega)
            have hzb := fmtA_size HG.out HSz.out id (nm := nm) (f := g) (by omega)
            have HJn := Lib.hid (fun (he : V.nodeEr M id = 0) => fmtA_append (qf := qf) (nm := nm) he f g HLs.out)
            have hadd := fun W => run_string_add_sum (P := Tryz.prog) (w := W) f g (by omega)
            generalize fmtA M qf id nm f = XA at HFa hza HJn
            generalize fmtA M qf id nm g = XB at HFb hzb HJn
            generalize fmtA M qf id nm (f ++ g) = XC at HFc HJn
            have hq1 := fun W => run_string_add_sum (P := Tryz.prog) (w := W) XA XB (by omega)
            obtain ⟨q0, q1, q2⟩ := HKp.out _ HB7.out
            go_upto_region 8 with (go_at_call 9; refine (HFa.out _ (Below.refl _ _)).mono ?_; rintro e w8 ⟨rfl, hb8⟩; have HB8 := Lib.hid hb8; clear hb8)
            clear q0 q1 q2 HFa
            obtain ⟨q0, q1, q2⟩ := HKp.out _ (HB7.out.trans (HB8.out.mono HB7.out.size))
            go_upto_region 9 with (go_at_call 9; refine (HFb.out _ HB8.out).mono ?_; rintro e w9 ⟨rfl, hb9⟩; have HB9 := Lib.hid (below_two HB8.out hb9); clear hb9)
            clear q0 q1 q2 HFb
            obtain ⟨q0, q1, q2⟩ := HKp.out _ (HB7.out.trans (HB9.out.mono HB7.out.size))
            go_upto_region 10 with (go_at_call 9; refine (HFc.out _ HB9.out).mono ?_; rintro e w10 ⟨rfl, hb10⟩; have HB10 := Lib.hid (below_two HB9.out hb10); clear hb10)
            clear q0 q1 q2 HFc hadd
            have HBe := Lib.hid (below_two HB1.out (HB7.out.trans (HB10.out.mono HB7.out.size)))
            by_cases he : V.nodeEr M id = 0
            · have hJ := HJn.out he
              rw [← hJ] at hq1
              have d9 : (V.nodeEr M id != 0) = false := by rw [he]; rfl
              have d8 : (XC.toList == XC.toList) = true := beq_self_eq_true _
              clear he hJ hza hzb
              go_wp2_with fail
              go_ret
              exact ⟨rfl, HBe.out⟩
            · have d9 : (V.nodeEr M id != 0) = true := by simpa using he
              clear he hza hzb hq1
              go_wp2_with fail
              go_ret
              exact ⟨rfl, HBe.out⟩
end Go.Proofs.YtigkdehaepenhaaGreatDoor.J

namespace Go.Proofs.YtigkdehaepenhaaGreatDoor.factsJoins
open Go.Proofs.YtigkdehaepenhaaGreatDoor.JQ
open Go.ChangeShapes Go.WideShapes Go.ChangeAt Go.RowKit
open Go.ChangeMaps (open_string shut_string)

set_option maxRecDepth 100000 in
theorem contract (H : Type) (enc : TypeId × Value → H) (W : World) (base : Nat) (args : Array Value) (ds gs : List (DataW H)) (before : List MemPlace)
    (hval : ∀ (j : Nat) t v, Tryz.f3.params[j]? = some t → args[j]? = some v → Value.okWide Tryz.prog W .any base t v)
    (hW : DataW.Whole enc Tryz.prog Tryz.f3.params.toList Rows.factsJoinsSpec.vars false W args.toList ds gs before) (hL : laidMetH Tryz.prog Rows.factsJoinsRow.laid W) (hsh : W.ShapedOpen Tryz.prog) :
    Calls Tryz.prog 3 args W fun e W' => ∃ v, e = .returned v ∧ Rows.factsJoinsSpec.post enc Tryz.prog Tryz.f3 false true false false W args v W' := by
  have hW' := hW
  obtain ⟨p, q, hA0, hV, rfl, hfz, hnd⟩ := hW
  have hA : DataW.TrodAll enc Tryz.prog W 0 (fun _ => true) true Tryz.f3.params.toList args.toList ds p := hA0
  rw [Tryz.params3] at hA hval
  obtain ⟨v0, vs0, d0, ds0, p0, q0, hargs, rfl, rfl, h0, r0⟩ := trodAll_cons hA
  obtain ⟨v1, vs1, d1, ds1, p1, q1, rfl, rfl, rfl, h1, r1⟩ := trodAll_cons r0
  obtain ⟨v2, vs2, d2, ds2, p2, q2, rfl, rfl, rfl, h2, r2⟩ := trodAll_cons r1
  obtain ⟨rfl, rfl, rfl⟩ := trodAll_nil r2
  obtain rfl : args = #[v0, v1, v2] := by cases args; simp_all
  obtain ⟨rfl, rfl⟩ := trodVars_none hV
  obtain ⟨a0, len0, cap0, rfl⟩ := okWide_slice Tryz.underlying22 (hval 0 22 v0 rfl rfl)
  have k0 := h0
  have lt0 : ∀ x ∈ p0, x.block < W.heap.size := by obtain ⟨m, hm⟩ := k0; exact DataW.trod_lt m _ _ _ hm
  obtain ⟨l0, rfl, x0, z0, m0⟩ := V.changes_of h0
  obtain ⟨a1, rfl, rfl, rfl, w1⟩ := open_int Tryz.underlying3 (hval 1 3 v1 rfl rfl) h1
  have b1 := bounds_i64 w1
  have k2 := h2
  have lt2 : ∀ x ∈ p2, x.block < W.heap.size := by obtain ⟨m, hm⟩ := k2; exact DataW.trod_lt m _ _ _ hm
  obtain ⟨sa2, sb2, sc2, rfl, z2⟩ := J.three_of (hval 2 23 v2 rfl rfl) h2
  rw [MakeChecks.laidMetH_plain _ _ _ (by kernel_rfl)] at hL
  have ht : QTab W := tab_of hL hsh
  clear hA0
  refine (J.joins_any l0 a0 cap0 a1 sa2 sb2 sc2 quoB W x0 ht.f (qj ht.q) m0 z0 z2.1 z2.2.1 z2.2.2).mono fun e W' ⟨he, bel⟩ => ?_
  subst he
  exact ⟨_, rfl, _, _, _, [], _, [], hW', trodAll_mk1 (shut_bool Tryz.underlying4 _), (trodAll_cons_mk (Below.trod laidOut (by kernel_rfl) (of_decide_eq_true (by kernel_rfl)) k0 bel lt0) (trodAll_cons_mk (shut_int Tryz.underlying3 w1) (trodAll_cons_mk (Below.trod laidOut (by kernel_rfl) (of_decide_eq_true (by kernel_rfl)) k2 bel lt2) trodAll_mk0))), rfl, bel.frame _, fun h => by cases h⟩

theorem laid_met (os : Os) : laidMetH Tryz.prog Rows.factsJoinsRow.laid ((World.laidAll Tryz.prog os Rows.factsJoinsRow.laid).forCall (fun _ _ => 0) ⟨#[], #[.slice none 0 0, .int .i64 0, .agg #[.string ⟨#[]⟩, .string ⟨#[]⟩, .string ⟨#[]⟩]], []⟩).memory := by
  rw [MakeChecks.laidMetH_plain _ _ _ (by kernel_rfl)]
  exact laidMet_laidAll _ (by kernel_rfl) (by kernel_rfl)

theorem reads (os : Os) {H : Type} (enc : TypeId × Value → H) : ∃ places, DataW.whole enc Tryz.prog ((World.laidAll Tryz.prog os Rows.factsJoinsRow.laid).forCall (fun _ _ => 0) ⟨#[], #[.slice none 0 0, .int .i64 0, .agg #[.string ⟨#[]⟩, .string ⟨#[]⟩, .string ⟨#[]⟩]], []⟩).memory Tryz.f3.params.toList Rows.factsJoinsSpec.vars false #[Value.slice none 0 0, .int .i64 0, .agg #[.string ⟨#[]⟩, .string ⟨#[]⟩, .string ⟨#[]⟩]].toList 8 = some ([.nil, .lit (.int .i64 0), .agg [.lit (.string []), .lit (.string []), .lit (.string [])]], [], places) :=
  ⟨[], by kernel_rfl⟩

set_option maxRecDepth 100000 in
theorem lifted (os : Os) (started : os.Started) (H : Type) (enc : TypeId × Value → H) (F : Stop.Interp) :
    ReturnsInHanded {} Tryz.checked os 3 .any ((OpenSpec.ofChange Rows.factsJoinsSpec).preRow enc Tryz.prog Tryz.f3 Rows.factsJoinsRow.domain false Rows.factsJoinsRow.laid) (((OpenSpec.ofChange Rows.factsJoinsSpec).at F).post enc Tryz.prog Tryz.f3 false true false false) := by
  obtain ⟨places, hx⟩ := reads os enc
  refine returnsInHanded_of_row (C := Tryz.checked) (s := OpenSpec.ofChange Rows.factsJoinsSpec) own started (by kernel_rfl) Tryz.func3
    (witness_row_atRef (enc := enc) (C := Tryz.checked) false (World.laidAll Tryz.prog os Rows.factsJoinsRow.laid) #[.slice none 0 0, .int .i64 0, .agg #[.string ⟨#[]⟩, .string ⟨#[]⟩, .string ⟨#[]⟩]] (World.laidAll_os _ _ _) (by kernel_rfl) (by kernel_rfl) (by kernel_rfl)
      (OpenSpec.preRow_of_cond 8 hx (by kernel_rfl) (fun k hk => by cases hk) (by kernel_rfl) (laid_met os))) ?_
  intro W base args ds gs before hval hW _ _ _ hL hsh _
  exact contract H enc W base args ds gs before hval hW hL hsh

theorem said : Rows.FactsJoinsSaid :=
  OpenClaim.holds_of_cond 3 Tryz.f3 rfl rfl rfl rfl rfl rfl rfl ⟨rfl, rfl, rfl, rfl, rfl⟩ rfl rfl rfl rfl rfl (by kernel_rfl) Tryz.func3 (by kernel_rfl)
    (of_decide_eq_true (by kernel_rfl)) (by unfold Func.isWrapper; first | (rw [if_pos (by decide +kernel)]; kernel_rfl) | (rw [if_neg (by decide +kernel)]; exact ⟨rfl, rfl⟩))
    (fun os started H enc _ F => by rw [OpenClaim.pre_eq_preRow]; exact lifted os started H enc F)

theorem plain (f : FuncId) (fn : Func) (hf : Tryz.pinned.checked.prog.funcNamed "domesday/domesdaylaw16.FactsJoins" = some f) (hfn : Tryz.pinned.checked.prog.funcs[f]? = some fn) :
    false = Tryz.pinned.checked.prog.looks [] ∧ ∀ (j : Nat) t, fn.params[j]? = some t → Tryz.pinned.checked.prog.wantsStandIn t = false := by
  obtain rfl : f = 3 := Option.some.inj ((show Tryz.prog.funcNamed "domesday/domesdaylaw16.FactsJoins" = some 3 by kernel_rfl).symm.trans hf) |>.symm
  obtain rfl : fn = Tryz.f3 := (Option.some.inj (Tryz.func3.symm.trans hfn)).symm
  refine ⟨by kernel_rfl, fun j t ht => ?_⟩
  rw [Tryz.params3] at ht
  have : t = 22 ∨ t = 3 ∨ t = 23 := by simpa using Array.mem_of_getElem? ht
  rcases this with rfl | rfl | rfl
  · exact (show Tryz.prog.wantsStandIn 22 = false by kernel_rfl)
  · exact (show Tryz.prog.wantsStandIn 3 = false by kernel_rfl)
  · exact (show Tryz.prog.wantsStandIn 23 = false by kernel_rfl)

/-- The card. -/
theorem card : Rows.FactsJoinsCardSaid :=
  Claim7.holds_tied_plain_at .later [] _ _ _ _ said (fun _ h => by cases h) (by kernel_rfl) (fun _ h => by cases h) factsJoins_row_tie rfl ⟨rfl, rfl⟩ (by kernel_rfl) rfl plain (by kernel_rfl)
end Go.Proofs.YtigkdehaepenhaaGreatDoor.factsJoins
