/-
  What a run reads of its arguments: options and operands, or what is wrong. Conditions: at most 40 arguments of at most 1000 bytes; what quotes, and what tells a wrong number, are told ahead.
-/
import Derived.Test.YtknfhphhcnbndaaGreatDoorGZSpecs
import Derived.Test.YtknfhphhcnbndaaGreatDoorGZFail
import Derived.Test.YtknfhphhcnbndaaGreatDoorGAStep
import Derived.Test.YtknfhphhcnbndaaGreatDoorGARead
set_option linter.unusedVariables false
set_option linter.unusedSimpArgs false
namespace Go.Proofs.YtknfhphhcnbndaaGreatDoor.Z
open Go.Proofs.YtknfhphhcnbndaaGreatDoor.A
open Go.Proofs.YtknfhphhcnbndaaGreatDoor.B
open Go.RowKit

inductive Tr where
  | wrong (s : ByteArray)
  | ok (o : List A.Op) (p : List ByteArray)
def invT : ByteArray := ⟨#[105, 110, 118, 97, 108, 105, 100, 32, 97, 114, 103, 117, 109, 101, 110, 116, 32]⟩
def missT : ByteArray := ⟨#[109, 105, 115, 115, 105, 110, 103, 32, 111, 112, 101, 114, 97, 110, 100]⟩
def aloneM (t : Tl) (o : List A.Op) (p : List ByteArray) : Tr := if p = [] then (if t.alone = 0 then .wrong missT else if t.alone = 1 then .ok o [⟨#[46]⟩] else .ok o []) else .ok o p
def treadM (qf : ByteArray → ByteArray) (wn : List A.Op → Option ByteArray) (t : Tl) (args : List ByteArray) : Tr := match readM (specsM t) args with
  | .bad a => .wrong (invT ++ qf a)
  | .ok o p => match wn o with
    | some a => .wrong (invT ++ qf a)
    | none => aloneM t o p
def wnV : Option ByteArray → Value
  | some a => .tuple #[.string a, .int .i64 1]
  | none => .tuple #[.string ⟨#[]⟩, .int .i64 0]
def WnRel (O : List A.Op) (w1 : World) (v : Value) (wr : World) : Prop := ∃ i : Nat, i ≤ O.length ∧ v = .int .i64 (i : Int) ∧ Hid (Below w1.heap.size w1 wr)
set_option maxRecDepth 100000 in
set_option maxHeartbeats 4000000 in
/-- Where no option takes a number, none is wrong. -/
theorem wrongNone_any (t : Tl) (o0 : Option Addr) (n0 c0 : Nat) (O : List A.Op) (a : Option Addr) (cap : Nat) (w : World) (H : RowL 2 opC w a O) (hn : O.length ≤ 100000) (hw : ∀ o ∈ O, (0 ≤ o.letter ∧ o.letter < 256) ∧ oneOf (listB t.numbers) o = false) :
    Calls Tryz.prog 107 #[tlV t (.slice o0 n0 c0), .slice a O.length cap] w fun e w' => e = .returned (wnV none) ∧ Below w.heap.size w w' := by
  have HR := Lib.hid H
  have HW := Lib.hid hw
  clear H hw
  unfold tlV
  go_enter Tryz.func107, Tryz.ntmps107
  go_upto_region 1 with fail
  have HX := Lib.hid (heap_alloc_new w (.cells #[.string t.name, .string t.flags, .string t.numbers, .string t.texts, .slice o0 n0 c0, .int .i64 t.alone, .func (.func t.fn) #[] #[]] 117))
  have HB := Lib.hid (show Below w.heap.size w (w.alloc (.cells #[.string t.name, .string t.flags, .string t.numbers, .string t.texts, .slice o0 n0 c0, .int .i64 t.alone, .func (.func t.fn) #[] #[]] 117)) from (Below.refl _ _).alloc (Nat.le_refl _) _)
  generalize w.alloc (.cells #[.string t.name, .string t.flags, .string t.numbers, .string t.texts, .slice o0 n0 c0, .int .i64 t.alone, .func (.func t.fn) #[] #[]] 117) = w1 at HX HB ⊢
  go_wp2_with fail
  go_loopw [12] (WnRel O w1) (fun v _ => O.length - (intOf v).toNat)
  case atStart => exact ⟨0, Nat.zero_le _, rfl, Lib.hid (Below.refl _ _)⟩
  case round =>
    obtain ⟨i, hi, rfl, HBr⟩ := hrel
    by_cases hlt : i < O.length
    · have e1 : decide ((i : Int) < (O.length : Int)) = true := decide_eq_true (by omega)
      obtain ⟨o, ho⟩ : ∃ o, O[i]? = some o := ⟨_, List.getElem?_eq_getElem hlt⟩
      obtain ⟨g, of, rfl, hg, hr⟩ := (HR.out.keep (HB.out.trans (HBr.out.mono HB.out.size))).at_ ho
      have r0 : wr.cell? ⟨g, of + i * 2, none⟩ = some (.int .u8 o.letter) := hr 0 _ rfl
      have r1 : wr.cell? ⟨g, of + i * 2 + 1, none⟩ = some (.string o.value) := hr 1 _ rfl
      obtain ⟨⟨hl0, hl1⟩, hno⟩ := HW.out o (List.mem_of_getElem? ho)
      have HIb := Lib.hid (fun (X : World) => Tryz.strings_IndexByte t.numbers o.letter X)
      have hib := oneOf_ib (o := o) (listB t.numbers) hl0 hl1
      have hlt0 : Lib.indexByte (listB t.numbers) o.letter.toNat.toUInt8 < 0 := by
        apply Classical.byContradiction
        intro z
        rw [hib.2 (by omega)] at hno
        cases hno
      have hie : ∀ X, Calls Tryz.prog 70 #[.string t.numbers, .int .u8 o.letter] X fun e w' => e = .returned (.int .i64 (Lib.indexByte (listB t.numbers) o.letter.toNat.toUInt8)) ∧ w' = X := fun X => HIb.out X
      have HIc := Lib.hid hie
      clear hie hib hno HIb
      generalize Lib.indexByte (listB t.numbers) o.letter.toNat.toUInt8 = I at HIc hlt0
      have e2 : decide (I < 0) = true := decide_eq_true hlt0
      clear ho hr hg
      go_upto_region 4 with fail
      have HBa := Lib.hid (HBr.out.alloc HBr.out.size (.cells #[.int .u8 o.letter, .string o.value] 256))
      have HXa := Lib.hid (heap_alloc_new wr (.cells #[.int .u8 o.letter, .string o.value] 256))
      generalize wr.alloc (.cells #[.int .u8 o.letter, .string o.value] 256) = w2 at HBa HXa ⊢
      have HXb := Lib.hid ((HBa.out.block _ (heap_lt HX.out)).trans HX.out)
      have q0 : w2.cell? ⟨wr.heap.size, 0, none⟩ = some (.int .u8 o.letter) := by rw [cell_of_row _ _ _ _ _ _ HXa.out]; rfl
      have q2 : w2.cell? ⟨w.heap.size, 2, none⟩ = some (.string t.numbers) := by rw [cell_of_row _ _ _ _ _ _ HXb.out]; rfl
      clear r0 r1
      go_wp2_with (go_at_call 70; refine (HIc.out _).mono ?_; rintro e w3 ⟨rfl, hw3⟩; subst hw3)
      go_roundw
      case rel => exact ⟨i + 1, by omega, by simp, HBa⟩
      case measure => simp [intOf]; omega
    · have e1 : decide ((i : Int) < (O.length : Int)) = false := decide_eq_false (by omega)
      go_wp2_with fail
      go_ret2
      exact ⟨rfl, HB.out.trans (HBr.out.mono HB.out.size)⟩
theorem opts_bad {o : List A.Op} {r : Rd} {a : ByteArray} (h : r.opts o = .bad a) : r = .bad a := by cases r <;> simp_all [Rd.opts]
theorem operand_bad {x : ByteArray} {r : Rd} {a : ByteArray} (h : r.operand x = .bad a) : r = .bad a := by cases r <;> simp_all [Rd.operand]
theorem read_bad_mem {specs : List Sp} {a : ByteArray} : ∀ (n : Nat) (args : List ByteArray), args.length ≤ n → readM specs args = .bad a → a ∈ args
  | _, [], _, h => by rw [readM] at h; cases h
  | 0, _ :: _, hl, _ => by simp at hl
  | n + 1, x :: r, hl, h => by
    rw [read_cons] at h
    rw [List.length_cons] at hl
    cases hk : kindA specs x with
    | stop => rw [hk] at h; cases h
    | operand => rw [hk] at h; exact List.mem_cons_of_mem _ (read_bad_mem n r (by omega) (operand_bad h))
    | bad => rw [hk] at h; cases h; exact List.mem_cons_self
    | opts l => rw [hk] at h; exact List.mem_cons_of_mem _ (read_bad_mem n r (by omega) (opts_bad h))
    | next l c =>
      rw [hk] at h
      cases r with
      | nil => cases h; exact List.mem_cons_self
      | cons b r' => exact List.mem_cons_of_mem _ (List.mem_cons_of_mem _ (read_bad_mem n r' (by simp at hl; omega) (opts_bad h)))
/-- What opts.Read answers, in one form. -/
def RForm (base : Nat) (r : Rd) (oa : Option Addr) (on oc : Nat) (pa : Option Addr) (pn pc : Nat) (s : ByteArray) (er : Int) (w' : World) : Prop := match r with
  | .bad a => s = a ∧ er = 10
  | .ok l p => s = ⟨#[]⟩ ∧ er = 0 ∧ on = l.length ∧ pn = p.length ∧ w'.ownsRow base 256 2 (.slice oa l.length oc) l.length (cellsC opC l) ∧ w'.ownsRow base 9 1 (.slice pa p.length pc) p.length (strs p)
theorem read_form {base : Nat} {r : Rd} {e : Ending} {w' : World} (h : ReadR base r e w') : ∃ oa on oc pa pn pc s er, e = .returned (.tuple #[.slice oa on oc, .slice pa pn pc, .string s, .int .i64 er]) ∧ RForm base r oa on oc pa pn pc s er w' := by
  cases r with
  | bad a => exact ⟨none, 0, 0, none, 0, 0, a, 10, h, rfl, rfl⟩
  | ok l p =>
    obtain ⟨ov, pv, rfl, h1, h2⟩ := h
    obtain ⟨oa, oc, rfl⟩ := owns_form h1
    obtain ⟨pa, pc, rfl⟩ := owns_form h2
    exact ⟨oa, _, oc, pa, _, pc, _, _, rfl, rfl, rfl, rfl, rfl, h1, h2⟩
section
variable {B g : Nat} {S : List Value} {out err : ByteArray} {st : Int} {w w' : World}
/-- What read answers. -/
def TreadR (B g : Nat) (S : List Value) (out err : ByteArray) (st : Int) (w : World) (r : Tr) (e : Ending) (w' : World) : Prop := match r with
  | .wrong s => e = .returned (.string s) ∧ Kp B g w w'
  | .ok o p => e = .returned (.string ⟨#[]⟩) ∧ ∃ oa oc pa pc, RunAt B g ((S.set 7 (.slice oa o.length oc)).set 8 (.slice pa p.length pc)) out err st w' ∧ w'.ownsRow B 256 2 (.slice oa o.length oc) o.length (cellsC opC o) ∧ w'.ownsRow B 9 1 (.slice pa p.length pc) p.length (strs p) ∧ Kp B g w w'
/-- Letters, as they may be told of a tool. -/
structure TlOk (t : Tl) : Prop where
  longs : t.longs.length ≤ 1000
  ascii : ∀ c ∈ listB (lettersT t), c.toNat < 128
  flags : t.flags.size ≤ 300
  numbers : t.numbers.size ≤ 300
  texts : t.texts.size ≤ 300
set_option maxRecDepth 100000 in
set_option maxHeartbeats 16000000 in
theorem tread_any (h : RunAt B g S out err st w) (t : Tl) (lv : Value) (args : List ByteArray) (la : Option Addr) (lc : Nat) (qf : ByteArray → ByteArray) (wn : List A.Op → Option ByteArray) (hl : LongsAt w t lv) (ht : TlOk t) (HA : TxtL w la args) (hc : args.length ≤ lc ∧ lc ≤ maxLen ∧ (la = none → lc = 0)) (hm : MaxT w) (hk : args.length ≤ 40) (hz : ∀ x ∈ args, x.size ≤ 1000)
    (HW : ∀ o p, readM (specsM t) args = .ok o p → ∀ (X : World) (oa : Option Addr) (oc : Nat), Below w.heap.size w X → RowL 2 opC X oa o → Calls Tryz.prog 107 #[tlV t lv, .slice oa o.length oc] X fun e w' => e = .returned (wnV (wn o)) ∧ Below X.heap.size X w')
    (HQ : (∀ o p, readM (specsM t) args = .ok o p → wn o ≠ none) → QAt B qf w ∧ ∀ s, s.size ≤ 1000 → (qf s).size ≤ 1000000) (hws : ∀ o p a, readM (specsM t) args = .ok o p → wn o = some a → a.size ≤ 1000) :
    Calls Tryz.prog 54 #[.pointer (some ⟨g, 0, none⟩), tlV t lv, .slice la args.length lc] w fun e w' => TreadR B g S out err st w (treadM qf wn t args) e w' := by
  obtain ⟨lo, rfl, hlr⟩ := hl
  have HR := Lib.hid h
  have HLg := Lib.hid (show LongsAt w t (.slice lo t.longs.length t.longs.length) from ⟨lo, rfl, hlr⟩)
  have HAr := Lib.hid HA
  have HMt := Lib.hid hm
  have HSp := Lib.hid (fun (X : World) (hb : Below w.heap.size w X) => specs_any t (.slice lo t.longs.length t.longs.length) X (HLg.out.keep hb) ht.longs ht.ascii ⟨ht.flags, ht.numbers, ht.texts⟩)
  have hsl : (specsM t).length ≤ 1000 := by
    rw [specs_len]
    show (t.flags ++ t.numbers ++ t.texts).size ≤ _
    rw [app_sz, app_sz]
    have := ht.flags
    have := ht.numbers
    have := ht.texts
    omega
  have HRd := Lib.hid (fun (X : World) (sa : Option Addr) (sc : Nat) (hb : Below w.heap.size w X) (hs : SpsL X sa (specsM t)) => read_any (specsM t) args sa la sc lc X hs (HAr.out.keep hb) hc (HMt.out.keep hb) hsl hk hz)
  have HWn := Lib.hid HW
  have HQq := Lib.hid HQ
  have HBw := Lib.hid h.lo
  clear h hlr HA hm hsl HW HQ
  obtain ⟨ll, hll⟩ : ∃ l, t.longs.length = l := ⟨_, rfl⟩
  rw [hll] at HSp HWn HLg ⊢
  clear hll
  unfold tlV at HSp HWn ⊢
  go_enter Tryz.func54, Tryz.ntmps54
  go_upto_region 1 with fail
  have HX := Lib.hid (heap_alloc_new w (.cells #[.string t.name, .string t.flags, .string t.numbers, .string t.texts, .slice lo ll ll, .int .i64 t.alone, .func (.func t.fn) #[] #[]] 117))
  have HB := Lib.hid (show Below w.heap.size w (w.alloc (.cells #[.string t.name, .string t.flags, .string t.numbers, .string t.texts, .slice lo ll ll, .int .i64 t.alone, .func (.func t.fn) #[] #[]] 117)) from (Below.refl _ _).alloc (Nat.le_refl _) _)
  generalize w.alloc (.cells #[.string t.name, .string t.flags, .string t.numbers, .string t.texts, .slice lo ll ll, .int .i64 t.alone, .func (.func t.fn) #[] #[]] 117) = w1 at HX HB ⊢
  have HXs := Lib.hid (show ∀ X, Below w1.heap.size w1 X → X.heap[w.heap.size]? = some (.cells #[.string t.name, .string t.flags, .string t.numbers, .string t.texts, .slice lo ll ll, .int .i64 t.alone, .func (.func t.fn) #[] #[]] 117 (0, 0)) from fun X hX => (hX.block _ (heap_lt HX.out)).trans HX.out)
  go_upto_region 2 with (first
    | (refine wpList_load_row rfl 117 (.tmp 4) rfl w.heap.size rfl 117 _ (0, 0) _ HX.out Tryz.underlying117 rfl sizeTl ?_)
    | (go_at_call 106; refine (HSp.out _ HB.out).mono ?_; rintro e w2 ⟨v2, rfl, ho2, hb2⟩; obtain ⟨sa, sc, rfl, hs2, _⟩ := RowL.of_owns spC_len ho2; have HS2 := Lib.hid hs2; have HB2 := Lib.hid hb2; clear ho2 hs2 hb2)
    | (go_at_call 105; refine (HRd.out _ _ _ (HB.out.trans (HB2.out.mono HB.out.size)) HS2.out).mono ?_; rintro e w3 ⟨hr3, hb3⟩; obtain ⟨oa, on, oc, pa, pn, pc, s, er, rfl, hf⟩ := read_form hr3; have HF := Lib.hid hf; have HB3 := Lib.hid (HB2.out.trans (hb3.mono HB2.out.size)); clear hr3 hb3 hf))
  have HBx := Lib.hid (HB.out.trans (HB3.out.mono HB.out.size))
  have HW2 := Lib.hid (Nat.le_trans HBw.out.2.2 (Nat.le_trans HB.out.size HB2.out.size))
  have hqa := fun (a : ByteArray) (h1 : (qf a).size ≤ 1000000) (W : World) => run_string_add_sum (P := Tryz.prog) W invT (qf a) (by show 17 + _ ≤ _; omega)
  unfold invT at hqa
  have HQa := Lib.hid hqa
  clear hqa HRd HSp HMt HAr HLg HX HB2 HS2
  cases hrd : readM (specsM t) args with
  | bad a =>
    rw [hrd] at HF
    obtain ⟨rfl, rfl⟩ := HF.out
    have HT := Lib.hid (show treadM qf wn t args = .wrong (invT ++ qf s) from by unfold treadM; rw [hrd])
    have hsz : s.size ≤ 1000 := hz _ (read_bad_mem _ _ (Nat.le_refl _) hrd)
    obtain ⟨hq, hqs⟩ := HQq.out (fun o p h => by rw [hrd] at h; cases h)
    have HQs := Lib.hid (hq.keep (HBx.out.mono HBw.out.2.2) w3 s (Below.refl _ _) (by omega))
    have ha := HQa.out s (hqs s hsz)
    clear hrd hq hqs HQq HWn HF
    generalize qf s = QX at HQs ha HT
    go_wp2_with (go_at_call 33; refine HQs.out.mono ?_; rintro e w4 ⟨rfl, hb4⟩; have HB4 := Lib.hid (HBx.out.trans (hb4.mono HBx.out.size)); clear hb4)
    go_ret
    rw [HT.out]
    exact ⟨rfl, Kp.of_below HR.out HB4.out⟩
  | ok o p =>
    rw [hrd] at HF
    obtain ⟨rfl, rfl, rfl, rfl, ho, hp⟩ := HF.out
    have HO := Lib.hid ho
    have HP := Lib.hid hp
    obtain ⟨oa2, oc2, e2, hol, _⟩ := RowL.of_owns opC_len ho
    simp only [Value.slice.injEq, true_and] at e2
    obtain ⟨rfl, rfl⟩ := e2
    have HCw := Lib.hid (HWn.out o p hrd w3 oa oc HBx.out hol)
    have HTm := Lib.hid (show treadM qf wn t args = match wn o with | some a => .wrong (invT ++ qf a) | none => aloneM t o p from by unfold treadM; rw [hrd])
    clear ho hp hol HF HWn
    cases hwn : wn o with
    | some a =>
      rw [hwn] at HCw HTm
      replace HTm : Hid (treadM qf wn t args = .wrong (invT ++ qf a)) := Lib.hid HTm.out
      have hsz : a.size ≤ 1000 := hws o p a hrd hwn
      obtain ⟨hq, hqs⟩ := HQq.out (fun o' p' h => by rw [hrd] at h; cases h; rw [hwn]; exact fun z => by cases z)
      have HQs := Lib.hid (fun (X : World) (hb : Below w3.heap.size w3 X) => hq.keep ((HBx.out.trans (hb.mono HBx.out.size)).mono HBw.out.2.2) X a (Below.refl _ _) (by omega))
      have ha := HQa.out a (hqs a hsz)
      clear hrd hq hqs HQq hwn
      generalize qf a = QX at HQs ha HTm
      unfold wnV at HCw
      have HXr := Lib.hid (HXs.out w3 HB3.out)
      go_wp2_with (first
        | (refine wpList_load_row rfl 117 (.tmp 4) rfl w.heap.size rfl 117 _ (0, 0) _ HXr.out Tryz.underlying117 rfl sizeTl ?_)
        | (go_at_call 107; refine HCw.out.mono ?_; rintro e w4 ⟨rfl, hb4⟩; have HB4 := Lib.hid hb4; clear hb4)
        | (go_at_call 33; refine (HQs.out _ HB4.out).mono ?_; rintro e w5 ⟨rfl, hb5⟩; have HB5 := Lib.hid (HBx.out.trans ((HB4.out.trans (hb5.mono HB4.out.size)).mono HBx.out.size)); clear hb5))
      go_ret
      rw [HTm.out]
      exact ⟨rfl, Kp.of_below HR.out HB5.out⟩
    | none =>
      rw [hwn] at HCw HTm
      replace HTm : Hid (treadM qf wn t args = aloneM t o p) := Lib.hid HTm.out
      clear hrd HQq hwn HQa
      unfold wnV at HCw
      have HXr := Lib.hid (HXs.out w3 HB3.out)
      go_upto_region 4 with (first
        | (refine wpList_load_row rfl 117 (.tmp 4) rfl w.heap.size rfl 117 _ (0, 0) _ HXr.out Tryz.underlying117 rfl sizeTl ?_)
        | (go_at_call 107; refine HCw.out.mono ?_; rintro e w4 ⟨rfl, hb4⟩; have HB4 := Lib.hid (HB3.out.trans (hb4.mono HB3.out.size)); have HO4 := Lib.hid (owns_low (owns_to HO.out hb4) HW2.out); have HP4 := Lib.hid (owns_low (owns_to HP.out hb4) HW2.out); clear hb4))
      have HBy := Lib.hid (HB.out.trans (HB4.out.mono HB.out.size))
      clear HO HP HCw HXr HBx
      obtain ⟨v7, h7⟩ : ∃ v, S[7]? = some v := ⟨_, List.getElem?_eq_getElem (by rw [HR.out.len]; decide)⟩
      obtain ⟨v8, h8⟩ : ∃ v, S[8]? = some v := ⟨_, List.getElem?_eq_getElem (by rw [HR.out.len]; decide)⟩
      have HRy := Lib.hid (HR.out.keep HBy.out)
      have HKy := Lib.hid (Kp.of_below HR.out HBy.out)
      have HX4 := Lib.hid (HXs.out w4 HB4.out)
      have q5 : w4.cell? ⟨w.heap.size, 5, none⟩ = some (.int .i64 t.alone) := by rw [cell_of_row _ _ _ _ _ _ HX4.out]; rfl
      have fin : ∀ (W : World) (op : List ByteArray) (pa : Option Addr) (pc : Nat), RunAt B g S out err st W → Kp B g w W → W.ownsRow B 256 2 (.slice oa o.length oc) o.length (cellsC opC o) → W.ownsRow B 9 1 (.slice pa op.length pc) op.length (strs op) → TreadR B g S out err st w (.ok o op) (.returned (.string ⟨#[]⟩)) ((W.setCell ⟨g, 7, none⟩ (.slice oa o.length oc)).setCell ⟨g, 8, none⟩ (.slice pa op.length pc)) := fun W op pa pc hr hk ho hp => by
        have h1 := hr.set 7 (by decide) (.slice oa o.length oc)
        have k1 := kp_set hr 7 (.slice oa o.length oc)
        have k2 := kp_set h1 8 (.slice pa op.length pc)
        exact ⟨rfl, oa, oc, pa, pc, h1.set 8 (by decide) _, k2.owns (k1.owns ho (by decide) (by decide)) (by decide) (by decide), k2.owns (k1.owns hp (by decide) (by decide)) (by decide) (by decide), hk.trans (k1.trans k2)⟩
      have HFi := Lib.hid fin
      clear fin HX4
      by_cases hp0 : p = []
      · subst hp0
        unfold aloneM at HTm
        rw [if_pos rfl] at HTm
        by_cases ha0 : t.alone = 0
        · rw [if_pos ha0] at HTm
          rw [ha0] at q5
          clear ha0
          go_wp2_with fail
          go_ret
          rw [HTm.out]
          exact ⟨rfl, HKy.out⟩
        · rw [if_neg ha0] at HTm
          have d0 : (t.alone == 0) = false := beq_eq_false_iff_ne.2 ha0
          by_cases ha1 : t.alone = 1
          · rw [if_pos ha1] at HTm
            rw [ha1] at q5
            clear ha0 ha1 d0
            go_upto_region 12 with fail
            have HBa := Lib.hid (show Below w4.heap.size w4 (w4.alloc (.cells #[.string ⟨#[46]⟩] 9)) from (Below.refl _ _).alloc (Nat.le_refl _) _)
            have HPa := Lib.hid (show (w4.alloc (.cells #[.string ⟨#[46]⟩] 9)).ownsRow B 9 1 (.slice (some ⟨w4.heap.size, 0, none⟩) [(⟨#[46]⟩ : ByteArray)].length 1) [(⟨#[46]⟩ : ByteArray)].length (strs [⟨#[46]⟩]) from owns_low (owns_one w4 ⟨#[46]⟩) (Nat.le_trans HBw.out.2.2 HBy.out.size))
            have HRz := Lib.hid (HRy.out.keep HBa.out)
            have HKz := Lib.hid (HKy.out.trans (Kp.of_below HRy.out HBa.out))
            have HOz := Lib.hid (owns_to HO4.out HBa.out)
            generalize w4.alloc (.cells #[.string ⟨#[46]⟩] 9) = w5 at HPa HRz HKz HOz ⊢
            generalize w4.heap.size = b4 at HPa ⊢
            have e7 := HRz.out.cell h7
            have e8 := HRz.out.cell h8
            have f7 := HRz.out.frozen 7
            have f8 := HRz.out.frozen 8
            have HFx := Lib.hid (HFi.out w5 [⟨#[46]⟩] _ _ HRz.out HKz.out HOz.out HPa.out)
            clear q5
            go_wp2_with fail
            go_ret
            rw [HTm.out]
            exact HFx.out
          · rw [if_neg ha1] at HTm
            have d1 : (t.alone == 1) = false := beq_eq_false_iff_ne.2 ha1
            have e7 := HRy.out.cell h7
            have e8 := HRy.out.cell h8
            have f7 := HRy.out.frozen 7
            have f8 := HRy.out.frozen 8
            have HFx := Lib.hid (HFi.out w4 [] _ _ HRy.out HKy.out HO4.out HP4.out)
            clear ha0 ha1
            go_wp2_with fail
            go_ret
            rw [HTm.out]
            exact HFx.out
      · unfold aloneM at HTm
        rw [if_neg hp0] at HTm
        have hpl : 0 < p.length := List.length_pos_iff.2 hp0
        have d0 : ((p.length : Int) == 0) = false := beq_eq_false_iff_ne.2 (by omega)
        have e7 := HRy.out.cell h7
        have e8 := HRy.out.cell h8
        have f7 := HRy.out.frozen 7
        have f8 := HRy.out.frozen 8
        have HFx := Lib.hid (HFi.out w4 p _ _ HRy.out HKy.out HO4.out HP4.out)
        clear hp0 q5
        go_wp2_with fail
        go_ret
        rw [HTm.out]
        exact HFx.out
end
end Go.Proofs.YtknfhphhcnbndaaGreatDoor.Z
