/-
  What facts' written returns: a format, with what each directive tells in its place. Conditions: a format of at most 1000 bytes, texts of at most 60000; the tables lie.
  What facts.Format returns: what a format tells of a node that there is, an error of one that there isn't. Conditions: what Node and Link return is known; a format of at most 1000 bytes, texts of at most 60000; the tables lie.
  What the listed package-level variables give the facts: the table of classes, powers of ten, trailing noughts. Conditions: none.
  Arrays of texts that came in, and rows of devices. Conditions: what came in lies in memory.
-/
import Derived.Test.YtknfhphhcnbndaaGreatDoorFJTold
import Derived.Test.YtknfhphhcnbndaaGreatDoorFJMem
import Derived.Test.YtknfhphhcnbndaaGreatDoorShelf
import Derived.Test.YtknfhphhcnbndaaGreatDoorFJModM
import Derived.Test.YtknfhphhcnbndaaGreatDoorFVArg
set_option linter.unusedSimpArgs false
set_option linter.unusedVariables false
namespace Go.Proofs.YtknfhphhcnbndaaGreatDoor.J
open List renaming setIfInBounds_toArray → lt, set_cons_zero → l0, set_cons_succ → ls
open Go.Proofs.YtknfhphhcnbndaaGreatDoor.B
open Go.RowKit

def szOf : Value → Nat
  | .string s => s.size
  | _ => 0
def WrRel (n : P.Nv) (nm qt : By) (f : ByteArray) (W0 : World) (b K : Nat) (v1 : Value) (wr : World) : Prop :=
  ∃ (t : ByteArray) (out : By), v1 = .string t ∧ Hid (P.Bld W0 b out wr) ∧ Hid (out ++ fmtJ n nm qt t.data.toList = fmtJ n nm qt f.data.toList) ∧ t.size ≤ f.size ∧ Hid (∀ c ∈ t.data.toList, c ∈ f.data.toList) ∧ out.length ≤ K * f.size
theorem drop_size (t : ByteArray) (k : Nat) : (t.extract k t.size).data.toList = t.data.toList.drop k := by
  have hl : t.data.toList.length = t.size := by simp
  rw [ByteArray.data_extract, Array.toList_extract, List.extract_eq_take_drop, ← hl, List.take_of_length_le]
  simp
theorem take_bytes (t : ByteArray) (k : Nat) : (t.extract 0 k).data.toList = t.data.toList.take k := by
  rw [ByteArray.data_extract, Array.toList_extract, List.extract_eq_take_drop]
  simp
theorem two_at (f : ByteArray) (k : Nat) (h : k + 1 < f.size) (h37 : f.data.toList[k]? = some 37) : (f.extract k (k + 2)).data.toList = [37, f[k + 1]'h] := by
  have hl : f.data.toList.length = f.size := by simp
  have e1 : f.data.toList.drop k = 37 :: f.data.toList.drop (k + 1) := by
    obtain ⟨hi, he⟩ := List.getElem?_eq_some_iff.1 h37
    rw [List.drop_eq_getElem_cons hi, he]
  have e2 : f.data.toList.drop (k + 1) = (f[k + 1]'h) :: f.data.toList.drop (k + 2) := List.drop_eq_getElem_cons (l := f.data.toList) (by omega)
  rw [ByteArray.data_extract, Array.toList_extract, List.extract_eq_take_drop, e1, e2, show k + 2 - k = 2 by omega]
  rfl

set_option maxRecDepth 100000 in
set_option maxHeartbeats 16000000 in
theorem written_any (n : P.Nv) (nm lt : ByteArray) (qf : ByteArray → ByteArray) (f : ByteArray) (w : World) (ht : FTab w) (hN : NumJ n) (hq : (78 : UInt8) ∈ f.data.toList → QJ qf w) (hn : nm.size ≤ 60000) (hl : lt.size ≤ 60000) (hf : f.size ≤ 1000) (hqs : (quotB qf n.kind nm lt).size ≤ 900000) :
    Calls Tryz.prog 85 #[subV n nm lt, .string f] w fun e w' => e = .returned (.string (txt (fmtJ n nm.data.toList (quotB qf n.kind nm lt).data.toList f.data.toList))) ∧ Below w.heap.size w w' := by
  have HTd := Lib.hid (fun (dir : ByteArray) (hz : 1 < dir.size) (c : UInt8) (hc : dir[1]'hz = c) (hm : c ∈ f.data.toList) (W : World) (hb : Below w.heap.size w W) => told_any n nm lt qf dir hz c hc W (ht.keep hb) hN (fun e => (hq (by rw [e] at hm; exact hm)).keep hb) hn hl)
  have hl1 : nm.data.toList.length ≤ 900000 := by rw [size_list]; omega
  have hl2 : (quotB qf n.kind nm lt).data.toList.length ≤ 900000 := by rw [size_list]; omega
  have HLn := Lib.hid (fun (c : UInt8) (s : By) (h : oneJ n nm.data.toList (quotB qf n.kind nm lt).data.toList c = some s) => oneJ_len hN hl1 hl2 (by omega) c s h)
  have HLf := Lib.hid (show (fmtJ n nm.data.toList (quotB qf n.kind nm lt).data.toList f.data.toList).length ≤ 900000 * f.size from by
    have := fmtJ_len hN hl1 hl2 (by omega) f.data.toList
    rwa [size_list] at this)
  clear ht hN hq hqs hl1 hl2
  generalize (quotB qf n.kind nm lt).data.toList = qt at HTd HLn HLf ⊢
  obtain ⟨nl, hnl⟩ : ∃ nl, nm.data.toList = nl := ⟨_, rfl⟩
  rw [hnl] at HTd HLn HLf ⊢
  clear hnl hn hl
  unfold subV subC at HTd ⊢
  go_enter Tryz.func85, Tryz.ntmps85
  go_upto_region 1 with fail
  obtain ⟨B0, hB0⟩ : ∃ B0, w.heap.size = B0 := ⟨_, rfl⟩
  obtain ⟨w1, hw1⟩ : ∃ w1, w.alloc (.cells #[.int .i64 n.dev, .int .i64 n.ino, .int .i64 n.kind, .int .i64 n.mode, .int .i64 n.uid, .int .i64 n.gid, .int .i64 n.size, .int .i64 n.blocks, .int .i64 n.links, .int .i64 n.ta, .int .i64 n.tb, .int .i64 n.tc, .string n.target, .string nm, .string lt] 173) = w1 := ⟨_, rfl⟩
  have HB1 := Lib.hid (show Below w.heap.size w w1 from by rw [← hw1]; exact (Below.refl _ _).alloc (Nat.le_refl _) _)
  have HX1 := Lib.hid (show w1.heap[B0]? = some (.cells #[.int .i64 n.dev, .int .i64 n.ino, .int .i64 n.kind, .int .i64 n.mode, .int .i64 n.uid, .int .i64 n.gid, .int .i64 n.size, .int .i64 n.blocks, .int .i64 n.links, .int .i64 n.ta, .int .i64 n.tb, .int .i64 n.tc, .string n.target, .string nm, .string lt] 173) from by rw [← hw1, ← hB0]; exact heap_alloc_new _ _)
  rw [hw1, hB0]
  clear hw1 hB0
  have HM := Lib.hid (P.Bld.made w1)
  go_upto_region 2 with fail
  go_loopw [1] (WrRel n nl qt f w1 w1.heap.size 900000) (fun v _ => szOf v)
  case atStart => exact ⟨f, [], rfl, HM, Lib.hid rfl, Nat.le_refl _, Lib.hid (fun c h => h), Nat.zero_le _⟩
  case round =>
    obtain ⟨t, out, rfl, HB, HE, hts, HS, hol⟩ := hrel
    have HIb := Lib.hid (fun (W : World) => Tryz.strings_IndexByte t 37 W)
    simp only [show (37 : Int).toNat.toUInt8 = 37 from rfl] at HIb
    have htl : t.data.toList.length = t.size := size_list t
    by_cases hno : Lib.indexByte t.data.toList 37 = -1
    · have HF := Lib.hid (show out ++ t.data.toList = fmtJ n nl qt f.data.toList from by rw [← HE.out, fmtJ_no hno])
      rw [hno] at HIb
      clear hno HE
      go_wp2_with (first
        | (go_at_call 70; refine (HIb.out _).mono ?_; rintro e w2 ⟨rfl, hw⟩; subst hw)
        | (go_at_call 121; refine (HB.out.writeString (by omega) t (by omega)).mono ?_; rintro e w3 ⟨⟨v3, rfl⟩, hB3, _⟩; have HB3 := Lib.hid hB3; clear hB3)
        | (go_at_call 55; refine HB3.out.string.mono ?_; rintro e w4 ⟨rfl, hb4⟩; have HB4 := Lib.hid hb4; clear hb4))
      try rw [Exit.noGoto_ret]
      go_ret
      exact ⟨by rw [HF.out]; rfl, below_two HB1.out HB4.out⟩
    · have hge := Lib.indexByte_ge t.data.toList 37
      obtain ⟨i, hi⟩ : ∃ i : Nat, Lib.indexByte t.data.toList 37 = (i : Int) := ⟨(Lib.indexByte t.data.toList 37).toNat, by omega⟩
      obtain ⟨hil, _, h37⟩ := at_split hi
      have HI := Lib.hid hi
      rw [hi] at HIb
      have dn : decide ((i : Int) < 0) = false := decide_eq_false (by omega)
      by_cases hlast : i + 1 = t.size
      · have HF := Lib.hid (show out ++ t.data.toList = fmtJ n nl qt f.data.toList from by rw [← HE.out, fmtJ_last hi (by omega)])
        have dl : ((i : Int) == (t.size : Int) - 1) = true := beq_iff_eq.2 (by omega)
        clear hi HE h37 hno hge HI
        go_wp2_with (first
          | (go_at_call 70; refine (HIb.out _).mono ?_; rintro e w2 ⟨rfl, hw⟩; subst hw)
          | (go_at_call 121; refine (HB.out.writeString (by omega) t (by omega)).mono ?_; rintro e w3 ⟨⟨v3, rfl⟩, hB3, _⟩; have HB3 := Lib.hid hB3; clear hB3)
          | (go_at_call 55; refine HB3.out.string.mono ?_; rintro e w4 ⟨rfl, hb4⟩; have HB4 := Lib.hid hb4; clear hb4))
        try rw [Exit.noGoto_ret]
        go_ret
        exact ⟨by rw [HF.out]; rfl, below_two HB1.out HB4.out⟩
      · have dl : ((i : Int) == (t.size : Int) - 1) = false := beq_eq_false_iff_ne.2 (by omega)
        have hin : i + 1 < t.size := by omega
        obtain ⟨c, hc⟩ : ∃ c, t[i + 1]'hin = c := ⟨_, rfl⟩
        have hcl : t.data.toList[i + 1]? = some c := by rw [List.getElem?_eq_getElem (by omega), ← hc]; rfl
        have HCm := Lib.hid (HS.out c (List.mem_of_getElem? hcl))
        have hdir := two_at t i hin (by rw [List.getElem?_eq_getElem hil]; have := List.drop_eq_getElem_cons hil; rw [h37] at this; exact congrArg some (List.cons.inj this).1.symm)
        rw [hc] at hdir
        obtain ⟨D, hD⟩ : ∃ D, t.extract i (i + 2) = D := ⟨_, rfl⟩
        rw [hD] at hdir
        have hDs : 1 < D.size := by have := congrArg List.length hdir; rw [size_list] at this; simp only [List.length_cons, List.length_nil] at this; omega
        have hD1 : D[1]'hDs = c := by
          have e1 : D.data.toList[1]? = some (D[1]'hDs) := list_at hDs
          rw [hdir] at e1
          exact (Option.some.inj e1).symm
        have HCt := Lib.hid (fun (W : World) (hb : Below w.heap.size w W) => HTd.out D hDs c hD1 HCm.out W hb)
        rw [hdir] at HCt
        have HSt := Lib.hid (fmtJ_step (n := n) (nm := nl) (qt := qt) hi hcl)
        have HSl := Lib.hid (show ((oneJ n nl qt c).getD [37, c]).length ≤ 900000 from by
          cases ho : oneJ n nl qt c with
          | none => show 2 ≤ _; omega
          | some s => exact HLn.out c s ho)
        obtain ⟨S, hS⟩ : ∃ S, (oneJ n nl qt c).getD [37, c] = S := ⟨_, rfl⟩
        rw [hS] at HCt HSt HSl
        have HPre : Hid ((t.extract 0 i).data.toList = t.data.toList.take i) := Lib.hid (take_bytes t i)
        have HPost : Hid ((t.extract (i + 2) t.size).data.toList = t.data.toList.drop (i + 2)) := Lib.hid (drop_size t (i + 2))
        have hps : (t.extract 0 i).size = i := by rw [← size_list, HPre.out, List.length_take]; omega
        have hqs : (t.extract (i + 2) t.size).size = t.size - (i + 2) := by rw [← size_list, HPost.out, List.length_drop]; omega
        have HFin := Lib.hid (show (out ++ t.data.toList.take i ++ S) ++ fmtJ n nl qt (t.data.toList.drop (i + 2)) = fmtJ n nl qt f.data.toList ∧ (out ++ t.data.toList.take i ++ S).length ≤ 900000 * f.size from by
          have e : (out ++ t.data.toList.take i ++ S) ++ fmtJ n nl qt (t.data.toList.drop (i + 2)) = fmtJ n nl qt f.data.toList := by rw [← HE.out, HSt.out, List.append_assoc, List.append_assoc]
          have e2 := congrArg List.length e
          rw [List.length_append] at e2
          exact ⟨e, by have := HLf.out; omega⟩)
        have HSs := Lib.hid (show ∀ c ∈ (t.extract (i + 2) t.size).data.toList, c ∈ f.data.toList from fun c hc => HS.out c (List.mem_of_mem_drop (by rw [HPost.out] at hc; exact hc)))
        have hms : out.length + i ≤ 900000 * f.size := by
          have := HFin.out.2
          rw [List.length_append, List.length_append, List.length_take] at this
          omega
        have i1 : (i : Int) + 2 ≤ (t.size : Int) := by omega
        have i2 : (0 : Int) ≤ (i : Int) := by omega
        have i3 : (i : Int) ≤ (i : Int) + 2 := by omega
        have i4 : (0 : Int) ≤ (i : Int) + 2 := by omega
        have i5 : ((i : Int) + 2).toNat = i + 2 := by omega
        have i6 : ((i : Int)).toNat = i := by omega
        have i7 : (i : Int) ≤ (t.size : Int) := by omega
        have hw2 : IntKind.i64.wrap ((i : Int) + 2) = (i : Int) + 2 := IntWalk.i64_in _ (by omega)
        clear hi HE h37 hno hge HI hS hcl hdir hD1 hc HSt
        generalize hpx : t.extract 0 i = PX at HPre hps
        generalize hqx : t.extract (i + 2) t.size = QX at HPost hqs HSs
        go_upto_region 6 with (go_at_call 70; refine (HIb.out _).mono ?_; rintro e w2 ⟨rfl, hw⟩; subst hw)
        go_upto_region 7 with (go_at_call 121; refine (HB.out.writeString (by omega) PX (by omega)).mono ?_; rintro e w3 ⟨⟨v3, rfl⟩, hB3, _⟩; have HB3 := Lib.hid hB3; clear hB3)
        have HXs := Lib.hid (show ∀ X, Below w1.heap.size w1 X → X.heap[B0]? = some (.cells #[.int .i64 n.dev, .int .i64 n.ino, .int .i64 n.kind, .int .i64 n.mode, .int .i64 n.uid, .int .i64 n.gid, .int .i64 n.size, .int .i64 n.blocks, .int .i64 n.links, .int .i64 n.ta, .int .i64 n.tb, .int .i64 n.tc, .string n.target, .string nm, .string lt] 173) from fun X hX => (hX.block _ (heap_lt HX1.out)).trans HX1.out)
-- TILL 1
        refine B.Till.region (z := 1000) (S := fun w' => Below w1.heap.size w1 w') (by kernel_rfl) (HB3.out.2.1.drew) (fun hHeld => ?_)
        refine B.Till.takeA (i := 0) (oi := ⟨some 25, .load 173 (.tmp 2), 173, "facts.go:64", #[], none⟩) (v := .agg #[.int .i64 n.dev, .int .i64 n.ino, .int .i64 n.kind, .int .i64 n.mode, .int .i64 n.uid, .int .i64 n.gid, .int .i64 n.size, .int .i64 n.blocks, .int .i64 n.links, .int .i64 n.ta, .int .i64 n.tb, .int .i64 n.tc, .string n.target, .string nm, .string lt]) rfl (by kernel_rfl) (by kernel_rfl) (by kernel_rfl) (by kernel_rfl) (fun _ _ _ h => h) (yieldsIf_load_mid (by rfl) 173 (.tmp 2) rfl B0 0 rfl [.int .i64 n.dev, .int .i64 n.ino, .int .i64 n.kind, .int .i64 n.mode, .int .i64 n.uid, .int .i64 n.gid, .int .i64 n.size, .int .i64 n.blocks, .int .i64 n.links, .int .i64 n.ta, .int .i64 n.tb, .int .i64 n.tc, .string n.target, .string nm, .string lt] _ (fun w0 hS0 => range_of (HXs.out _ hS0)) Tryz.underlying173 rfl sizeSub) (by assumption) ?_
        try simp only [Act.put, lt, l0, ls]
        refine B.Till.takeA (i := 1) (oi := ⟨some 26, .move (.tmp 1), 9, "facts.go:64", #[], none⟩) (v := .string t) rfl (by kernel_rfl) (by kernel_rfl) (by kernel_rfl) (by kernel_rfl) (fun _ _ _ h => h) (Or.inl ⟨by rfl, fun w0 hS0 => ?_⟩) (by assumption) ?_
        · go_simp
        try simp only [Act.put, lt, l0, ls]
        refine B.Till.takeA (i := 2) (oi := ⟨some 27, .move (.tmp 6), 3, "facts.go:64", #[], none⟩) (v := .int .i64 (i : Int)) rfl (by kernel_rfl) (by kernel_rfl) (by kernel_rfl) (by kernel_rfl) (fun _ _ _ h => h) (Or.inl ⟨by rfl, fun w0 hS0 => ?_⟩) (by assumption) ?_
        · go_simp
        try simp only [Act.put, lt, l0, ls]
        refine B.Till.takeA (i := 3) (oi := ⟨some 28, .move (.tmp 6), 3, "facts.go:64", #[], none⟩) (v := .int .i64 (i : Int)) rfl (by kernel_rfl) (by kernel_rfl) (by kernel_rfl) (by kernel_rfl) (fun _ _ _ h => h) (Or.inl ⟨by rfl, fun w0 hS0 => ?_⟩) (by assumption) ?_
        · go_simp
        try simp only [Act.put, lt, l0, ls]
        refine B.Till.takeA (i := 4) (oi := ⟨some 29, .binOp .add 3 (.tmp 28) (.const (.int .i64 2)) 3, 3, "facts.go:64", #[⟨3, .data⟩], none⟩) (v := .int .i64 ((i : Int) + 2)) rfl (by kernel_rfl) (by kernel_rfl) (by kernel_rfl) (by kernel_rfl) (fun _ _ _ h => h) (Or.inl ⟨by rfl, fun w0 hS0 => ?_⟩) (by assumption) ?_
        · go_simp
        try simp only [Act.put, lt, l0, ls]
        refine B.Till.takeA (i := 5) (oi := ⟨some 30, .slice 9 (.tmp 26) (some (.tmp 27)) (some (.tmp 29)) none, 9, "facts.go:64", #[⟨1, .data⟩, ⟨2, .data⟩, ⟨4, .data⟩], none⟩) (v := .string D) rfl (by kernel_rfl) (by kernel_rfl) (by kernel_rfl) (by kernel_rfl) (fun _ _ _ h => h) (Or.inl ⟨by rfl, fun w0 hS0 => ?_⟩) (by assumption) ?_
        · go_simp
        try simp only [Act.put, lt, l0, ls]
        refine B.Till.next (i := 6) (o := ⟨some 31, .call ⟨.value (.func 142), #[.tmp 25, .tmp 30], #[173, 9]⟩, 9, "facts.go:64", #[⟨0, .data⟩, ⟨5, .data⟩], none⟩) (by kernel_rfl) rfl (fun K hK => ?_)
        go_simp
        refine (HCt.out _ (below_two HB1.out hHeld)).mono ?_
        rintro e w4 ⟨rfl, hb4⟩
        have hH4 : Below w3.heap.size w3 w4 := ((Below.refl _ _).drew).trans hb4
        clear hb4
        go_wp2_with fail
        refine hK.out _ _ (fun _ => HB3.out.2.1.trans (hH4.mono HB3.out.2.2)) ?_
        clear hK K
        try simp only [Act.put, lt, l0, ls]
        refine B.Till.next (i := 7) (o := ⟨some 32, .call ⟨.value (.func 121), #[.tmp 5, .tmp 31], #[124, 9]⟩, 219, "facts.go:64", #[⟨6, .data⟩, ⟨6, .chain⟩], none⟩) (by kernel_rfl) rfl (fun K hK => ?_)
        go_simp
        have hB4 := HB3.out.keep hH4
        refine (hB4.writeString (by rw [List.length_append, HPre.out, List.length_take]; omega) (txt S) (by rw [txt_size]; have := HSl.out; omega)).mono ?_
        rintro e w5 ⟨⟨v5, rfl⟩, hB5, _⟩
        rw [txt_list] at hB5
        have HB5 := Lib.hid hB5
        clear hB5 hB4 hH4
        go_wp2_with fail
        refine hK.out _ _ (fun _ => HB5.out.2.1) ?_
        clear hK K
        try simp only [Act.put, lt, l0, ls]
        refine B.Till.done (by kernel_rfl) ?_
-- TILL 1 END
        go_wp2_with fail
        go_roundw
        case rel => exact ⟨QX, out ++ PX.data.toList ++ S, by rw [← hqx], HB5, Lib.hid (by rw [HPost.out, HPre.out]; exact HFin.out.1), by omega, HSs, by rw [HPre.out]; exact HFin.out.2⟩
        case measure => simp [szOf, hqx]; omega
end Go.Proofs.YtknfhphhcnbndaaGreatDoor.J

namespace Go.Proofs.YtknfhphhcnbndaaGreatDoor.J
open List renaming setIfInBounds_toArray → lt, set_cons_zero → l0, set_cons_succ → ls
open Go.Proofs.YtknfhphhcnbndaaGreatDoor.B
open Go.RowKit

theorem sizeNode : (Tryz.prog.info? 66).map (·.size) = some 13 := by kernel_rfl
set_option maxRecDepth 100000 in
set_option maxHeartbeats 8000000 in
theorem formatOk_any (fp : Value) (id le : Int) (n : P.Nv) (nm lt f : ByteArray) (qf : ByteArray → ByteArray) (w : World)
    (HN : ∀ X : World, Below w.heap.size w X → Calls Tryz.prog 30 #[fp, .int .i64 id] X fun e w' => e = .returned (.tuple #[P.nodeV n, .int .i64 0]) ∧ Below X.heap.size X w')
    (HL : ∀ X : World, Below w.heap.size w X → Calls Tryz.prog 84 #[fp, .int .i64 id] X fun e w' => e = .returned (.tuple #[.string lt, .int .i64 le]) ∧ Below X.heap.size X w')
    (ht : FTab w) (hN : NumJ n) (hq : (78 : UInt8) ∈ f.data.toList → QJ qf w) (hn : nm.size ≤ 60000) (hl : lt.size ≤ 60000) (hf : f.size ≤ 1000) (hqs : (quotB qf n.kind nm lt).size ≤ 900000) :
    Calls Tryz.prog 39 #[fp, .int .i64 id, .string nm, .string f] w fun e w' => e = .returned (.tuple #[.string (txt (fmtJ n nm.data.toList (quotB qf n.kind nm lt).data.toList f.data.toList)), .int .i64 0]) ∧ Below w.heap.size w w' := by
  have HNd := Lib.hid HN
  have HLk := Lib.hid HL
  have HWr := Lib.hid (fun (W : World) (hb : Below w.heap.size w W) => written_any n nm lt qf f W (ht.keep hb) hN (fun e => (hq e).keep hb) hn hl hf hqs)
  clear HN HL ht hN hq hqs
  generalize txt (fmtJ n nm.data.toList (quotB qf n.kind nm lt).data.toList f.data.toList) = R at HWr ⊢
  unfold P.nodeV at HNd
  unfold subV subC at HWr
  go_enter Tryz.func39, Tryz.ntmps39
  go_upto_region 1 with fail
  go_upto_region 2 with (first
    | (go_at_call 30; refine (HNd.out _ (Below.refl _ _)).mono ?_; rintro e w2 ⟨rfl, hb2⟩; have HB2 := Lib.hid hb2; clear hb2)
    | (refine wpList_store_row rfl 66 (.tmp 10) (.tmp 18) rfl w2.heap.size #[.int .i64 n.dev, .int .i64 n.ino, .int .i64 n.kind, .int .i64 n.mode, .int .i64 n.uid, .int .i64 n.gid, .int .i64 n.size, .int .i64 n.blocks, .int .i64 n.links, .int .i64 n.ta, .int .i64 n.tb, .int .i64 n.tc, .string n.target] rfl rfl 66 _ (heap_alloc_new _ _) sizeNode rfl (ndC_one n) ?_; rw [World.setRow_alloc_new]))
  have HX3 := Lib.hid (heap_alloc_new w2 (.cells #[.int .i64 n.dev, .int .i64 n.ino, .int .i64 n.kind, .int .i64 n.mode, .int .i64 n.uid, .int .i64 n.gid, .int .i64 n.size, .int .i64 n.blocks, .int .i64 n.links, .int .i64 n.ta, .int .i64 n.tb, .int .i64 n.tc, .string n.target] 66))
  have HB3 := Lib.hid (show Below w.heap.size w (w2.alloc (.cells #[.int .i64 n.dev, .int .i64 n.ino, .int .i64 n.kind, .int .i64 n.mode, .int .i64 n.uid, .int .i64 n.gid, .int .i64 n.size, .int .i64 n.blocks, .int .i64 n.links, .int .i64 n.ta, .int .i64 n.tb, .int .i64 n.tc, .string n.target] 66)) from HB2.out.alloc HB2.out.size _)
  generalize w2.alloc (.cells _ 66) = w3 at HX3 HB3 ⊢
  generalize w2.heap.size = B2 at HX3 ⊢
  clear HB2 HNd
  go_upto_region 5 with (go_at_call 84; refine (HLk.out _ (by with_reducible exact HB3.out)).mono ?_; rintro e w4 ⟨rfl, hb4⟩; have HB4 := Lib.hid (below_two HB3.out hb4); have HX4 := Lib.hid ((hb4.block _ (heap_lt HX3.out)).trans HX3.out); clear hb4)
  clear HX3 HB3 HLk
  go_wp2_with (refine wpList_load_row rfl 66 (.tmp 10) rfl B2 rfl 66 _ (0, 0) _ HX4.out Tryz.underlying66 rfl sizeNode ?_)
  refine (HWr.out _ (by with_reducible exact HB4.out)).mono ?_
  rintro e w5 ⟨rfl, hb5⟩
  have HB5 := Lib.hid (below_two HB4.out hb5)
  clear hb5
  go_wp2_with fail
  go_ret2
  exact ⟨rfl, HB5.out⟩
set_option maxRecDepth 100000 in
set_option maxHeartbeats 4000000 in
theorem formatNo_any (fp : Value) (id er : Int) (n : P.Nv) (nm f : ByteArray) (w : World) (he : er ≠ 0)
    (HN : ∀ X : World, Below w.heap.size w X → Calls Tryz.prog 30 #[fp, .int .i64 id] X fun e w' => e = .returned (.tuple #[P.nodeV n, .int .i64 er]) ∧ Below X.heap.size X w') :
    Calls Tryz.prog 39 #[fp, .int .i64 id, .string nm, .string f] w fun e w' => e = .returned (.tuple #[.string ⟨#[]⟩, .int .i64 er]) ∧ Below w.heap.size w w' := by
  have HNd := Lib.hid HN
  have d0 : (er != 0) = true := by simpa using he
  clear HN he
  unfold P.nodeV at HNd
  go_enter Tryz.func39, Tryz.ntmps39
  go_upto_region 1 with fail
  go_upto_region 2 with (first
    | (go_at_call 30; refine (HNd.out _ (Below.refl _ _)).mono ?_; rintro e w2 ⟨rfl, hb2⟩; have HB2 := Lib.hid hb2; clear hb2)
    | (refine wpList_store_row rfl 66 (.tmp 10) (.tmp 18) rfl w2.heap.size #[.int .i64 n.dev, .int .i64 n.ino, .int .i64 n.kind, .int .i64 n.mode, .int .i64 n.uid, .int .i64 n.gid, .int .i64 n.size, .int .i64 n.blocks, .int .i64 n.links, .int .i64 n.ta, .int .i64 n.tb, .int .i64 n.tc, .string n.target] rfl rfl 66 _ (heap_alloc_new _ _) sizeNode rfl (ndC_one n) ?_; rw [World.setRow_alloc_new]))
  have HB3 := Lib.hid (show Below w.heap.size w (w2.alloc (.cells #[.int .i64 n.dev, .int .i64 n.ino, .int .i64 n.kind, .int .i64 n.mode, .int .i64 n.uid, .int .i64 n.gid, .int .i64 n.size, .int .i64 n.blocks, .int .i64 n.links, .int .i64 n.ta, .int .i64 n.tb, .int .i64 n.tc, .string n.target] 66)) from HB2.out.alloc HB2.out.size _)
  generalize w2.alloc (.cells _ 66) = w3 at HB3 ⊢
  clear HB2 HNd
  go_wp2_with fail
  go_ret2
  exact ⟨rfl, HB3.out⟩
end Go.Proofs.YtknfhphhcnbndaaGreatDoor.J

namespace Go.Proofs.YtknfhphhcnbndaaGreatDoor.J
open List renaming setIfInBounds_toArray → lt, set_cons_zero → l0, set_cons_succ → ls
open Go.ChangeShapes Go.WideShapes Go.ChangeAt Go.RowKit Go.Deep

theorem own : ownKnob Tryz.prog.godebug = none := by kernel_rfl
theorem laidOut : laidOutB Tryz.prog = true := by kernel_rfl
theorem gPow : Tryz.prog.globalNamed "internal/strconv.uint64pow10" = some 6 := by kernel_rfl
theorem gPowType : (Tryz.prog.globals[6]?).map (·.type) = some 388 := by kernel_rfl
theorem cellsPow : Tryz.prog.cellsOf 388 = 20 := by kernel_rfl
theorem cellsU64 : Tryz.prog.cellsOf 186 = 1 := by kernel_rfl
def tz64 : List Int := [0, 1, 56, 2, 57, 49, 28, 3, 61, 58, 42, 50, 38, 29, 17, 4, 62, 47, 59, 36, 45, 43, 51, 22, 53, 39, 33, 30, 24, 18, 12, 5, 63, 55, 48, 27, 60, 41, 37, 16, 46, 35, 44, 21, 52, 32, 23, 11, 54, 26, 40, 15, 34, 20, 31, 10, 25, 14, 19, 9, 13, 8, 7, 6]
theorem gTz : Tryz.prog.globalNamed "math/bits.deBruijn64tab" = some 11 := by kernel_rfl
theorem gTzType : (Tryz.prog.globals[11]?).map (·.type) = some 427 := by kernel_rfl
theorem cellsTz : Tryz.prog.cellsOf 427 = 64 := by kernel_rfl
theorem cellsU8 : Tryz.prog.cellsOf 5 = 1 := by kernel_rfl
theorem tab_of {X : World} {a b c : String × DataW Unit} (h : laidMet Tryz.prog [a, ("math/bits.deBruijn64tab", Rows.laid_math_bits_deBruijn64tab), ("internal/strconv.uint64pow10", Rows.laid_internal_strconv_uint64pow10), b, ("domesday/perm.classes", Rows.laid_domesday_perm_classes), c] X) : FTab X := by
  have t1 : Lib.TabIs Tryz.prog X "math/bits.deBruijn64tab" .u8 tz64 := Lib.tabIs_of_head gTz gTzType Tryz.underlying427 Tryz.underlying5 cellsU8 cellsTz h.tail
  have t2 : Lib.TabIs Tryz.prog X "internal/strconv.uint64pow10" .u64 Lib.pow10Tab := Lib.tabIs_of_head gPow gPowType Tryz.underlying388 Tryz.underlying186 cellsU64 cellsPow h.tail.tail
  exact ⟨G.tab_of h.tail.tail.tail, t2, ⟨t1.cell gTz 7 (by decide), t1.cell gTz 15 (by decide)⟩⟩
end Go.Proofs.YtknfhphhcnbndaaGreatDoor.J

namespace Go.Proofs.YtknfhphhcnbndaaGreatDoor.J
open List renaming setIfInBounds_toArray → lt, set_cons_zero → l0, set_cons_succ → ls
open Go.Proofs.YtknfhphhcnbndaaGreatDoor.B
open Go.ChangeShapes Go.WideShapes Go.ChangeAt Go.RowKit Go.Deep

end Go.Proofs.YtknfhphhcnbndaaGreatDoor.J
