/-
  Arguments being read, as the reader lies in memory: specs, what is left, options, operands; what a step makes of it. Conditions: each fact's own.
  What Last and Has return. Conditions: at most 100000 options, in memory, their letters bytes.
  What the reader's small steps do: the next argument, an operand, an option, the end of the options. Conditions: at most 100000 arguments, options and operands.
-/
import Derived.Test.YtknfhphhcnbndaaGreatDoorKPut
import Derived.Test.YtknfhphhcnbndaaGreatDoorKAModM
import Derived.Test.YtknfhphhcnbndaaGreatDoorShelf
import Derived.Deep.WholeRow
import Derived.Deep.QuietTactic
import Derived.BigQuiet
import Derived.StillTailTactics
set_option linter.unusedVariables false
set_option linter.unusedSimpArgs false
namespace Go.Proofs.YtknfhphhcnbndaaGreatDoor.A
open Go.Proofs.YtknfhphhcnbndaaGreatDoor.B
open Go.RowKit

/-! ### texts, as a walk compares them -/
theorem txt_emp {s : ByteArray} (h : s.size = 0) : s.data = #[] ∧ s.toList = [] ∧ s.toList.isEmpty = true ∧ listB s = [] := by
  have h1 : s.data = #[] := Array.eq_empty_of_size_eq_zero h
  have h2 : s.toList = [] := by rw [Lib.toList_data, h1]
  exact ⟨h1, h2, by rw [h2]; rfl, by unfold listB; rw [h1]⟩
theorem txt_non {s : ByteArray} (h : 0 < s.size) : s.data ≠ #[] ∧ (s.toList == []) = false ∧ s.toList ≠ [] ∧ s.toList.isEmpty = false ∧ listB s ≠ [] := by
  have h1 : s.data.toList ≠ [] := fun z => by rw [← size_list, z] at h; exact absurd h (by decide)
  have h2 : s.toList ≠ [] := fun z => by
    rw [Lib.toList_data] at z
    exact h1 z
  exact ⟨fun z => h1 (by rw [z]), beq_eq_false_iff_ne.2 h2, h2, by rw [List.isEmpty_eq_false_iff]; exact h2, h1⟩
theorem txt_eq {a b : ByteArray} (h : a = b) : (a.toList == b.toList) = true := by rw [h]; exact beq_self_eq_true _
theorem txt_ne {a b : ByteArray} (h : a ≠ b) : a.data ≠ b.data ∧ (a.toList == b.toList) = false ∧ a.toList ≠ b.toList := by
  have h2 : a.toList ≠ b.toList := fun z => by
    rw [Lib.toList_data, Lib.toList_data] at z
    exact h (ByteArray.ext (Array.toList_inj.1 z))
  exact ⟨fun z => h (ByteArray.ext z), beq_eq_false_iff_ne.2 h2, h2⟩
theorem listB_inj {a b : ByteArray} (h : listB a = listB b) : a = b := ByteArray.ext (Array.toList_inj.1 h)
theorem listB_len (s : ByteArray) : (listB s).length = s.size := size_list s
theorem listB_byL (l : List UInt8) : listB (byL l) = l := rfl

/-! ### a spec, an option, cell by cell -/
def spC (s : Sp) : List Value := [.int .u8 s.letter, .string s.long, .bool s.value]
def spV (s : Sp) : Value := .agg #[.int .u8 s.letter, .string s.long, .bool s.value]
theorem spC_len (s : Sp) : (spC s).length = 3 := rfl
def opC (o : Op) : List Value := [.int .u8 o.letter, .string o.value]
theorem opC_len (o : Op) : (opC o).length = 2 := rfl
theorem opC_one (o : Op) : ∀ u ∈ opC o, u.oneCell' = true := by
  intro u hu
  simp only [opC, List.mem_cons, List.not_mem_nil, or_false] at hu
  rcases hu with rfl | rfl <;> rfl
/-- The slice at a holds these specs. -/
abbrev SpsL (w : World) (a : Option Addr) (l : List Sp) : Prop := RowL 3 spC w a l
theorem sps_at {w : World} {a : Option Addr} {l : List Sp} (h : SpsL w a l) {i : Nat} {s : Sp} (hs : l[i]? = some s) : ∃ g o, a = some ⟨g, o, none⟩ ∧ g < w.heap.size ∧ w.cell? ⟨g, o + i * 3, none⟩ = some (.int .u8 s.letter) ∧ w.cell? ⟨g, o + i * 3 + 1, none⟩ = some (.string s.long) ∧ w.cell? ⟨g, o + i * 3 + 2, none⟩ = some (.bool s.value) := by
  obtain ⟨g, o, h1, h0, h2⟩ := h.at_ hs
  exact ⟨g, o, h1, h0, h2 0 _ rfl, h2 1 _ rfl, h2 2 _ rfl⟩
theorem infoTxt : (Tryz.prog.info? 9).map (fun i => (i.zero, i.size, i.bytes)) = some (some (.string ⟨#[]⟩), 1, 16) := by kernel_rfl
theorem infoOp : (Tryz.prog.info? 256).map (fun i => (i.zero, i.size, i.bytes)) = some (some (.agg #[.int .u8 0, .string ⟨#[]⟩]), 2, 24) := by kernel_rfl
theorem info_parts {P : Program} {t : TypeId} {z : Value} {n b : Nat} (h : (P.info? t).map (fun i => (i.zero, i.size, i.bytes)) = some (some z, n, b)) : ∃ i, P.info? t = some i ∧ i.zero = some z ∧ i.size = n ∧ i.bytes = b := by
  obtain ⟨i, hi, e⟩ := Option.map_eq_some_iff.1 h
  simp only [Prod.mk.injEq] at e
  exact ⟨i, hi, e.1, e.2.1, e.2.2⟩

theorem sizeSp : (Tryz.prog.info? 254).map (·.size) = some 3 := by kernel_rfl
/-- A result that lies in a cell, and one beside it. -/
theorem results_pair {P : Program} {fn : Func} {p q : Tmp} {ty : TypeId} (h : fn.results = #[.cell p ty, .tmp q]) (tmps : Array Value) (w : World) (g : Nat) (t : TypeId) (cs : Array Value) (fr : Nat × Nat) (d : TypeDesc) (v : Value)
    (hp : tmps.getD p undef = .pointer (some ⟨g, 0, none⟩)) (hq : tmps.getD q undef = v) (hg : w.heap[g]? = some (.cells cs t fr))
    (hu : P.underlying ty = some d) (hd : (match d with | .struct _ | .array _ _ => true | _ => false) = true) (hi : (P.info? ty).map (·.size) = some cs.size) :
    (results fn tmps).run P w = .ok (.tuple #[.agg cs, v]) w := by
  have hp' : tmps[p]?.getD undef = .pointer (some ⟨g, 0, none⟩) := by simpa using hp
  have hq' : tmps[q]?.getD undef = v := by simpa using hq
  simp [results, h, hp', hq', asAddr, run_loadVar_row w g t ty cs fr d hg hu hd hi, Result.andThen]
def noSpC : Array Value := #[.int .u8 0, .string ⟨#[]⟩, .bool false]
theorem below_setRow {B g : Nat} {a w : World} (h : Below B a w) (hg : B ≤ g) (cs : Array Value) : Below B a (w.setRow g cs) :=
  ⟨h.os, h.tape, h.output, by have := h.size; simp [World.setRow]; omega, fun k hk => by rw [setRow_other _ _ _ _ (by omega)]; exact h.block k hk⟩
/-- What lies where a step has written one row of its own. -/
def spR (r : Option Sp) : Value := .tuple #[spV (r.getD noSp), .bool r.isSome]

/-- The world's library variable holds some number. -/
def MaxT (w : World) : Prop := ∃ m, w.cell? ⟨4, 0, none⟩ = some (.int .i64 m)
theorem cell_lt {w : World} {a : Addr} {v : Value} (h : w.cell? a = some v) : a.block < w.heap.size := by
  apply Classical.byContradiction
  intro hn
  have : w.heap[a.block]? = none := Array.getElem?_eq_none (by omega)
  unfold World.cell? at h
  simp [this] at h
theorem MaxT.keep {w w' : World} (h : MaxT w) (hb : Below w.heap.size w w') : MaxT w' := by
  obtain ⟨m, hm⟩ := h
  exact ⟨m, (hb.cell (cell_lt hm)).trans hm⟩

/-! ### the reader -/
structure Rdr (W0 : World) (b : Nat) (sa : Option Addr) (sn sc : Nat) (la : Option Addr) (lc : Nat) (L : List ByteArray) (O : List Op) (P : List ByteArray) (ov pv : Value) (w : World) : Prop where
  head : w.heap[b]? = some (.cells #[.slice sa sn sc, .slice la L.length lc, ov, pv] 250 (0, 0))
  left : TxtL W0 la L
  lcap : L.length ≤ lc ∧ lc ≤ maxLen ∧ (la = none → lc = 0)
  opts : w.ownsRow W0.heap.size 256 2 ov O.length (cellsC opC O)
  opnd : w.ownsRow W0.heap.size 9 1 pv P.length (strs P)
  low : Below W0.heap.size W0 w
  ge : W0.heap.size ≤ b
section
variable {W0 : World} {b : Nat} {sa : Option Addr} {sn sc : Nat} {la : Option Addr} {lc : Nat} {L : List ByteArray} {O : List Op} {P : List ByteArray} {ov pv : Value} {w w' w1 : World}
theorem Rdr.keep (h : Rdr W0 b sa sn sc la lc L O P ov pv w) (hb : Below w.heap.size w w') : Rdr W0 b sa sn sc la lc L O P ov pv w' :=
  ⟨(hb.block _ (heap_lt h.head)).trans h.head, h.left, h.lcap, owns_to h.opts hb, owns_to h.opnd hb, h.low.trans (hb.mono h.low.size), h.ge⟩
theorem Rdr.cell (h : Rdr W0 b sa sn sc la lc L O P ov pv w) {j : Nat} {v : Value} (hj : (#[.slice sa sn sc, .slice la L.length lc, ov, pv] : Array Value)[j]? = some v) : w.cell? ⟨b, j, none⟩ = some v := by
  rw [cell_of_row _ _ _ _ _ _ h.head]; exact hj
theorem Rdr.free (h : Rdr W0 b sa sn sc la lc L O P ov pv w) (j : Nat) : w.frozen? ⟨b, j, none⟩ = false := frozen_of_row _ _ _ _ _ h.head
theorem Rdr.lt (h : Rdr W0 b sa sn sc la lc L O P ov pv w) : b < w.heap.size := heap_lt h.head
theorem Rdr.o_ne (h : Rdr W0 b sa sn sc la lc L O P ov pv w) {k : Nat} (hk : ov.ownBlock = some k) : k ≠ b := by
  rintro rfl
  obtain ⟨cur, hc⟩ := owns_type h.opts hk
  rw [h.head] at hc
  simp at hc
theorem Rdr.p_ne (h : Rdr W0 b sa sn sc la lc L O P ov pv w) {k : Nat} (hk : pv.ownBlock = some k) : k ≠ b := by
  rintro rfl
  obtain ⟨cur, hc⟩ := owns_type h.opnd hk
  rw [h.head] at hc
  simp at hc
theorem Rdr.op_ne (h : Rdr W0 b sa sn sc la lc L O P ov pv w) {k j : Nat} (hk : ov.ownBlock = some k) (hj : pv.ownBlock = some j) : k ≠ j := by
  rintro rfl
  obtain ⟨cur, hc⟩ := owns_type h.opts hk
  obtain ⟨cur', hc'⟩ := owns_type h.opnd hj
  rw [hc'] at hc
  simp at hc
/-- Behind a store of what is left. -/
theorem Rdr.take (h : Rdr W0 b sa sn sc la lc L O P ov pv w) {la' : Option Addr} {lc' : Nat} {L' : List ByteArray} (hl : TxtL W0 la' L') (hc : L'.length ≤ lc' ∧ lc' ≤ maxLen ∧ (la' = none → lc' = 0)) : Rdr W0 b sa sn sc la' lc' L' O P ov pv (w.setCell ⟨b, 1, none⟩ (.slice la' L'.length lc')) := by
  refine ⟨heap_setCell_same _ _ _ _ _ _ h.head, hl, hc, ?_, ?_, h.low.setCell h.ge _, h.ge⟩
  · exact owns_at h.opts fun k hk => heap_setCell_other _ _ _ _ (h.o_ne hk)
  · exact owns_at h.opnd fun k hk => heap_setCell_other _ _ _ _ (h.p_ne hk)
/-- Behind an append of options, and the store of the new slice. -/
theorem Rdr.option (h : Rdr W0 b sa sn sc la lc L O P ov pv w) {E : List Op} {v1 : Value} (ho : w1.ownsRow W0.heap.size 256 2 v1 (O.length + E.length) (cellsC opC O ++ cellsC opC E)) (hg : w.grownBy w1 ov.ownBlock) :
    Rdr W0 b sa sn sc la lc L (O ++ E) P v1 pv (w1.setCell ⟨b, 2, none⟩ v1) := by
  have hh : w1.heap[b]? = some (.cells #[.slice sa sn sc, .slice la L.length lc, ov, pv] 250 (0, 0)) := (hg.block b h.lt (fun e => h.o_ne e.symm rfl)).trans h.head
  have hne : ∀ k, v1.ownBlock = some k → k ≠ b := fun k hk => by
    rintro rfl
    obtain ⟨cur, hc⟩ := owns_type ho hk
    rw [hh] at hc
    simp at hc
  refine ⟨heap_setCell_same _ _ _ _ _ _ hh, h.left, h.lcap, ?_, ?_, ?_, h.ge⟩
  · rw [List.length_append, cellsC_app]
    exact owns_at ho fun k hk => heap_setCell_other _ _ _ _ (hne k hk)
  · refine owns_at h.opnd fun k hk => ?_
    rw [heap_setCell_other _ _ _ _ (h.p_ne hk)]
    exact hg.block k (h.opnd.lt k hk).2 (fun e => h.op_ne e.symm hk rfl)
  · exact (h.low.grown hg h.low.size (fun k e => (h.opts.lt k e).1)).setCell h.ge _
/-- Behind an append of operands, and the store of the new slice. -/
theorem Rdr.operand (h : Rdr W0 b sa sn sc la lc L O P ov pv w) {E : List ByteArray} {v1 : Value} (ho : w1.ownsRow W0.heap.size 9 1 v1 (P.length + E.length) (strs P ++ strs E)) (hg : w.grownBy w1 pv.ownBlock) :
    Rdr W0 b sa sn sc la lc L O (P ++ E) ov v1 (w1.setCell ⟨b, 3, none⟩ v1) := by
  have hh : w1.heap[b]? = some (.cells #[.slice sa sn sc, .slice la L.length lc, ov, pv] 250 (0, 0)) := (hg.block b h.lt (fun e => h.p_ne e.symm rfl)).trans h.head
  have hne : ∀ k, v1.ownBlock = some k → k ≠ b := fun k hk => by
    rintro rfl
    obtain ⟨cur, hc⟩ := owns_type ho hk
    rw [hh] at hc
    simp at hc
  refine ⟨heap_setCell_same _ _ _ _ _ _ hh, h.left, h.lcap, ?_, ?_, ?_, h.ge⟩
  · refine owns_at h.opts fun k hk => ?_
    rw [heap_setCell_other _ _ _ _ (h.o_ne hk)]
    exact hg.block k (h.opts.lt k hk).2 (fun e => h.op_ne hk e.symm rfl)
  · rw [List.length_append, strs_app]
    exact owns_at ho fun k hk => heap_setCell_other _ _ _ _ (hne k hk)
  · exact (h.low.grown hg h.low.size (fun k e => (h.opnd.lt k e).1)).setCell h.ge _
end

/-- What a step answers: whether the argument is well; then the reader is as the model's step has it. -/
def Took (W0 : World) (b : Nat) (sa : Option Addr) (sn sc : Nat) (st : Option (List Op × List ByteArray × List ByteArray)) (e : Ending) (w' : World) : Prop := match st with
  | none => e = .returned (.bool false) ∧ Below W0.heap.size W0 w'
  | some s => e = .returned (.bool true) ∧ ∃ la' lc' ov' pv', Rdr W0 b sa sn sc la' lc' s.2.2 s.1 s.2.1 ov' pv' w'
theorem Took.no {W0 : World} {b : Nat} {sa : Option Addr} {sn sc : Nat} {w' : World} (h : Below W0.heap.size W0 w') : Took W0 b sa sn sc none (.returned (.bool false)) w' := ⟨rfl, h⟩
theorem Took.is {W0 : World} {b : Nat} {sa : Option Addr} {sn sc : Nat} {w' : World} {st : Option (List Op × List ByteArray × List ByteArray)} {e : Ending} (h : Took W0 b sa sn sc st e w') : e = .returned (.bool st.isSome) ∧ Took W0 b sa sn sc st (.returned (.bool st.isSome)) w' := by
  cases st with
  | none => exact ⟨h.1, rfl, h.2⟩
  | some s => exact ⟨h.1, rfl, h.2⟩
theorem Took.yes {W0 : World} {b : Nat} {sa : Option Addr} {sn sc : Nat} {w' : World} {O : List Op} {P L : List ByteArray} {la' : Option Addr} {lc' : Nat} {ov' pv' : Value} (h : Rdr W0 b sa sn sc la' lc' L O P ov' pv' w') : Took W0 b sa sn sc (some (O, P, L)) (.returned (.bool true)) w' := ⟨rfl, la', lc', ov', pv', h⟩
end Go.Proofs.YtknfhphhcnbndaaGreatDoor.A

namespace Go.Proofs.YtknfhphhcnbndaaGreatDoor.A
open Go.Proofs.YtknfhphhcnbndaaGreatDoor.B
open Go.RowKit

/-! ### the model -/
/-- Is an option's letter one of these? -/
def oneOf (s : List UInt8) (o : Op) : Bool := s.any fun c => decide (o.letter = (c.toNat : Int))
theorem ib_mem (b : UInt8) : ∀ l : List UInt8, (0 ≤ Lib.indexByte l b ↔ b ∈ l)
  | [] => by simp [Lib.indexByte]
  | c :: l => by
    have ih := ib_mem b l
    have hg := Lib.indexByte_ge l b
    unfold Lib.indexByte
    by_cases h : c = b
    · subst h
      simp
    · have h2 : (c == b) = false := beq_eq_false_iff_ne.2 h
      rw [h2, if_neg (by simp)]
      by_cases h3 : Lib.indexByte l b = -1
      · rw [h3, if_pos (by simp)]
        rw [h3] at ih
        constructor
        · intro z; omega
        · intro z
          rcases List.mem_cons.1 z with z | z
          · exact absurd z.symm h
          · have := ih.2 z; omega
      · rw [if_neg (by simpa using h3)]
        constructor
        · intro z
          exact List.mem_cons_of_mem _ (ih.1 (by omega))
        · intro z
          omega
theorem oneOf_ib {o : Op} (s : List UInt8) (h0 : 0 ≤ o.letter) (h1 : o.letter < 256) : (oneOf s o = true ↔ 0 ≤ Lib.indexByte s o.letter.toNat.toUInt8) := by
  have hb : (o.letter.toNat.toUInt8.toNat : Int) = o.letter := by
    rw [show o.letter.toNat.toUInt8.toNat = o.letter.toNat % 256 from rfl]
    omega
  rw [ib_mem]
  unfold oneOf
  rw [List.any_eq_true]
  constructor
  · rintro ⟨c, hc, he⟩
    have he := of_decide_eq_true he
    have : o.letter.toNat.toUInt8 = c := UInt8.toNat_inj.1 (by omega)
    rw [this]
    exact hc
  · intro hm
    exact ⟨_, hm, decide_eq_true hb.symm⟩
/-! ### Last -/
/-! ### Has -/
def HasRel (l : List Op) (c : Int) (w : World) (v : Value) (wr : World) : Prop := ∃ i : Nat, i ≤ l.length ∧ v = .int .i64 (i : Int) ∧ Hid (∀ (j : Nat) (x : Op), j < i → l[j]? = some x → x.letter ≠ c) ∧ Hid (Below w.heap.size w wr)
set_option maxRecDepth 100000 in
set_option maxHeartbeats 4000000 in
theorem has_any (l : List Op) (c : Int) (a : Option Addr) (cap : Nat) (w : World) (H : RowL 2 opC w a l) (hl : l.length ≤ 100000) :
    Calls Tryz.prog 251 #[.slice a l.length cap, .int .u8 c] w fun e w' => e = .returned (.bool (l.any fun o => decide (o.letter = c))) ∧ Below w.heap.size w w' := by
  have HR := Lib.hid H
  clear H
  go_enter Tryz.func251, Tryz.ntmps251
  go_wp2_with fail
  go_loopw [9] (HasRel l c w) (fun v _ => l.length - (intOf v).toNat)
  case atStart => exact ⟨0, Nat.zero_le _, rfl, Lib.hid (fun j x hj => by omega), Lib.hid (Below.refl _ _)⟩
  case round =>
    obtain ⟨i, hi, rfl, HNo, HB⟩ := hrel
    by_cases hlt : i < l.length
    · have e1 : decide ((i : Int) < (l.length : Int)) = true := decide_eq_true (by omega)
      obtain ⟨o, ho⟩ : ∃ o, l[i]? = some o := ⟨_, List.getElem?_eq_getElem hlt⟩
      have HOo := Lib.hid ho
      obtain ⟨g, of, rfl, hg, hr⟩ := (HR.out.keep HB.out).at_ ho
      have r0 : wr.cell? ⟨g, of + i * 2, none⟩ = some (.int .u8 o.letter) := hr 0 _ rfl
      have r1 : wr.cell? ⟨g, of + i * 2 + 1, none⟩ = some (.string o.value) := hr 1 _ rfl
      clear ho hr hg
      have HBa := Lib.hid (HB.out.alloc HB.out.size (.cells #[.int .u8 o.letter, .string o.value] 256))
      by_cases hc : o.letter = c
      · have e2 : (o.letter == c) = true := beq_iff_eq.2 hc
        have HF := Lib.hid (show (l.any fun o => decide (o.letter = c)) = true from List.any_eq_true.2 ⟨o, List.mem_of_getElem? HOo.out, decide_eq_true hc⟩)
        clear hc
        go_wp2_with fail
        go_ret
        exact ⟨by rw [HF.out]; rfl, HBa.out⟩
      · have e2 : (o.letter == c) = false := beq_eq_false_iff_ne.2 hc
        have HN := Lib.hid (show ∀ (j : Nat) (x : Op), j < i + 1 → l[j]? = some x → x.letter ≠ c from fun j x hj hx => by
          rcases Nat.lt_or_ge j i with q | q
          · exact HNo.out j x q hx
          · obtain rfl : j = i := by omega
            rw [HOo.out] at hx
            obtain rfl := Option.some.inj hx
            exact hc)
        clear hc
        go_wp2_with fail
        go_roundw
        case rel => exact ⟨i + 1, by omega, by simp, HN, HBa⟩
        case measure => simp [intOf]; omega
    · have e1 : decide ((i : Int) < (l.length : Int)) = false := decide_eq_false (by omega)
      have HF := Lib.hid (show (l.any fun o => decide (o.letter = c)) = false from by
        rw [List.any_eq_false]
        intro o ho
        obtain ⟨j, hj⟩ := List.mem_iff_getElem?.1 ho
        have := HNo.out j o (by have := (List.getElem?_eq_some_iff.1 hj).1; omega) hj
        simpa using this)
      go_wp2_with fail
      go_ret
      exact ⟨by rw [HF.out]; rfl, HB.out⟩
end Go.Proofs.YtknfhphhcnbndaaGreatDoor.A

namespace Go.Proofs.YtknfhphhcnbndaaGreatDoor.A
open Go.Proofs.YtknfhphhcnbndaaGreatDoor.B
open Go.RowKit

section
variable {W0 : World} {b : Nat} {sa : Option Addr} {sn sc : Nat} {la : Option Addr} {lc : Nat} {L : List ByteArray} {O : List Op} {P : List ByteArray} {ov pv : Value} {w : World}
theorem next_any {x : ByteArray} (h : Rdr W0 b sa sn sc la lc (x :: L) O P ov pv w) :
    Calls Tryz.prog 163 #[.pointer (some ⟨b, 0, none⟩)] w fun e w' => e = .returned (.string x) ∧ (∃ la' lc', Rdr W0 b sa sn sc la' lc' L O P ov pv w') ∧ ∀ k, k ≠ b → w'.heap[k]? = w.heap[k]? := by
  obtain ⟨g, o, rfl, hg, hr, ht⟩ := h.left.tail
  obtain ⟨hc1, hc2, _⟩ := h.lcap
  rw [List.length_cons] at hc1
  have c1 : w.cell? ⟨b, 1, none⟩ = some (.slice (some ⟨g, o, none⟩) (L.length + 1) lc) := h.cell (j := 1) rfl
  have f1 := h.free 1
  have cx : w.cell? ⟨g, o, none⟩ = some (.string x) := (h.low.cell (p := ⟨g, o, none⟩) hg).trans (hr 0 _ rfl)
  have HH := Lib.hid h
  have HT := Lib.hid ht
  have hw1 : IntKind.i64.wrap (((L.length + 1 : Nat) : Int)) = ((L.length + 1 : Nat) : Int) := IntWalk.i64_in _ (by unfold maxLen at hc2; omega)
  clear h hr ht hg
  by_cases h1 : lc = 1
  · obtain rfl : L = [] := List.eq_nil_of_length_eq_zero (by omega)
    subst h1
    go_enter Tryz.func163, Tryz.ntmps163
    go_wp2_with fail
    go_ret
    exact ⟨rfl, ⟨_, _, HH.out.take (la' := some ⟨g, o, none⟩) (lc' := 0) (L' := []) (RowL.nil _ _) ⟨by decide, by decide, fun _ => rfl⟩⟩, fun k hk => heap_setCell_other _ _ _ _ hk⟩
  · go_enter Tryz.func163, Tryz.ntmps163
    go_wp2_with fail
    go_ret
    exact ⟨rfl, ⟨_, _, HH.out.take HT.out ⟨by omega, by omega, fun q => by cases q⟩⟩, fun k hk => heap_setCell_other _ _ _ _ hk⟩
/-- The reader's cells where its block is as it was. -/
theorem Rdr.same (h : Rdr W0 b sa sn sc la lc L O P ov pv w) {W : World} (hW : W.heap[b]? = w.heap[b]?) : W.cell? ⟨b, 1, none⟩ = some (.slice la L.length lc) ∧ W.cell? ⟨b, 2, none⟩ = some ov ∧ W.cell? ⟨b, 3, none⟩ = some pv ∧ (∀ j, W.frozen? ⟨b, j, none⟩ = false) := by
  have q := hW.trans h.head
  refine ⟨?_, ?_, ?_, fun j => frozen_of_row _ _ _ _ _ q⟩ <;> (rw [cell_of_row _ _ _ _ _ _ q]; rfl)

set_option maxHeartbeats 1000000 in
theorem operand_any (x : ByteArray) (h : Rdr W0 b sa sn sc la lc L O P ov pv w) (hP : P.length ≤ 100000) :
    Calls Tryz.prog 222 #[.pointer (some ⟨b, 0, none⟩), .string x] w fun e w' => Took W0 b sa sn sc (some (O, P ++ [x], L)) e w' := by
  obtain ⟨it, hit, ht0, ht1, ht2⟩ := info_parts infoTxt
  have HS := Lib.hid (fun W hW => h.same (W := W) hW)
  have c3 := (HS.out w rfl).2.2.1
  have HB := Lib.hid h.lt
  have HN := Lib.hid (fun k hk => h.p_ne (k := k) hk)
  have HO := Lib.hid h.opnd
  have HG := Lib.hid h.low.size
  have HK := Lib.hid (h.keep ((Below.refl _ _).alloc (Nat.le_refl _) (.cells #[.string x] 9)))
  clear h
  go_enter Tryz.func222, Tryz.ntmps222
  go_wp2_with (at_builtin; go_loud (refine wpList_append_lies _ rfl (.tmp 9) (.tmp 11) 40 rfl W0.heap.size 9 it (.string ⟨#[]⟩) 1 16 Tryz.underlying40 hit ht0 ht1 ht2 rfl (by decide) _ _ _ rfl (HO.out.alloc _) ⟨w.heap.size, 0, none⟩ 1 1 [.string x] rfl rfl (World.news_of_block (heap_alloc_new _ _)) (by intro u hu; simp at hu; subst hu; rfl) (by decide) (by unfold maxLen; omega) (by omega) (by have := HG.out; simp; omega) _ rfl ?_; intro g5 cap5 w5 hown hgrow hat hlt; have hb5 := (hgrow.block b (by have := HB.out; simp; omega) (fun e => HN.out _ e.symm rfl)).trans (heap_alloc_old _ _ HB.out); have c5 := (HS.out _ hb5).2.2.1; have f5 := (HS.out _ hb5).2.2.2 3; have HX := Lib.hid (HK.out.operand (E := [x]) hown hgrow); clear hown hgrow hat hlt hb5))
  go_ret
  exact Took.yes HX.out

set_option maxRecDepth 100000 in
set_option maxHeartbeats 4000000 in
theorem add_any (s : Sp) (v : ByteArray) (h : Rdr W0 b sa sn sc la lc L O P ov pv w) (hO : O.length ≤ 100000) :
    Calls Tryz.prog 267 #[.pointer (some ⟨b, 0, none⟩), spV s, .string v] w fun e w' => e = .returned (.tuple #[]) ∧ ∃ ov', Rdr W0 b sa sn sc la lc L (O ++ [⟨s.letter, v⟩]) P ov' pv w' := by
  obtain ⟨i0, hi0, hz0, hz1, hz2⟩ := info_parts infoOp
  have HBw := Lib.hid h.lt
  have HN0 := Lib.hid (fun k hk => h.o_ne (k := k) hk)
  have HV0 := Lib.hid (fun k (hk : ov.ownBlock = some k) => (h.opts.lt k hk).2)
  have HWa := Lib.hid (h.keep ((Below.refl _ _).alloc (Nat.le_refl _) (.cells #[.int .u8 s.letter, .string s.long, .bool s.value] 254)))
  clear h
  unfold spV
  go_enter Tryz.func267, Tryz.ntmps267
  go_upto_region 1 with fail
  have HX := Lib.hid (heap_alloc_new w (.cells #[.int .u8 s.letter, .string s.long, .bool s.value] 254))
  generalize w.alloc (.cells #[.int .u8 s.letter, .string s.long, .bool s.value] 254) = w3 at HX HWa ⊢
  obtain ⟨B1, hB1⟩ : ∃ B1, w.heap.size = B1 := ⟨_, rfl⟩
  have HNx := Lib.hid (show some B1 ≠ ov.ownBlock from fun e => by have := HV0.out B1 e.symm; omega)
  have HNb := Lib.hid (show some b ≠ ov.ownBlock from fun e => HN0.out b e.symm rfl)
  rw [hB1] at HX ⊢
  have HCb := Lib.hid (fun W hW => HWa.out.same (W := W) hW)
  have HCx := Lib.hid (show ∀ W : World, W.heap[B1]? = w3.heap[B1]? → W.cell? ⟨B1, 0, none⟩ = some (.int .u8 s.letter) from fun W hW => by
    rw [cell_of_row _ _ _ _ _ _ (hW.trans HX.out)]; rfl)
  have HLb := Lib.hid HWa.out.lt
  have HLx := Lib.hid (heap_lt HX.out)
  have HLb2 := Lib.hid (show b < (w3.drew.alloc (.cells (opC ⟨s.letter, v⟩).toArray 256)).heap.size from by have := HLb.out; simp; omega)
  have HLx2 := Lib.hid (show B1 < (w3.drew.alloc (.cells (opC ⟨s.letter, v⟩).toArray 256)).heap.size from by have := HLx.out; simp; omega)
  have HW3 := Lib.hid (HWa.out.keep (show Below w3.heap.size w3 (w3.drew.alloc (.cells (opC ⟨s.letter, v⟩).toArray 256)) from ((Below.refl _ _).drew).alloc (Nat.le_refl _) _))
  have HO3 := Lib.hid HW3.out.opts
  have HG3 := Lib.hid HW3.out.low.size
-- TILL 1
  refine B.Till.region (z := 13) (S := fun w' => w'.heap[b]? = w3.heap[b]? ∧ w'.heap[B1]? = w3.heap[B1]?) (by kernel_rfl) ⟨rfl, rfl⟩ (fun hHeld => ?_)
  refine B.Till.take (i := 0) (oi := { dst := some 6, op := Op.move (Operand.tmp 0), type := 303, pos := "opts.go:174", after := #[], guard := none }) (v := .pointer (some ⟨b, 0, none⟩)) rfl (by kernel_rfl) (by kernel_rfl) (by kernel_rfl) (by kernel_rfl) (fun _ _ _ h => h) (Or.inl ⟨by rfl, fun w0 hS0 => ?_⟩) (by assumption) ?_
  · go_simp
  try simp only [Act.put, List.setIfInBounds_toArray, List.set_cons_zero, List.set_cons_succ]
  refine B.Till.take (i := 1) (oi := { dst := some 7, op := Op.move (Operand.tmp 0), type := 303, pos := "opts.go:174", after := #[], guard := none }) (v := .pointer (some ⟨b, 0, none⟩)) rfl (by kernel_rfl) (by kernel_rfl) (by kernel_rfl) (by kernel_rfl) (fun _ _ _ h => h) (Or.inl ⟨by rfl, fun w0 hS0 => ?_⟩) (by assumption) ?_
  · go_simp
  try simp only [Act.put, List.setIfInBounds_toArray, List.set_cons_zero, List.set_cons_succ]
  refine B.Till.take (i := 2) (oi := { dst := some 8, op := Op.nilCheck (Operand.tmp 7), type := 0, pos := "opts.go:174", after := #[{ on := 1, ground := Ground.data }], guard := none }) (v := .pointer (some ⟨b, 0, none⟩)) rfl (by kernel_rfl) (by kernel_rfl) (by kernel_rfl) (by kernel_rfl) (fun _ _ _ h => h) (Or.inl ⟨by rfl, fun w0 hS0 => ?_⟩) (by assumption) ?_
  · go_simp
  try simp only [Act.put, List.setIfInBounds_toArray, List.set_cons_zero, List.set_cons_succ]
  refine B.Till.take (i := 3) (oi := { dst := some 9, op := Op.fieldAddr 250 (Operand.tmp 8) 2, type := 0, pos := "opts.go:174", after := #[{ on := 2, ground := Ground.data }], guard := none }) (v := .pointer (some ⟨b, 2, none⟩)) rfl (by kernel_rfl) (by kernel_rfl) (by kernel_rfl) (by kernel_rfl) (fun _ _ _ h => h) (Or.inl ⟨by rfl, fun w0 hS0 => ?_⟩) (by assumption) ?_
  · go_simp
  try simp only [Act.put, List.setIfInBounds_toArray, List.set_cons_zero, List.set_cons_succ]
  refine B.Till.take (i := 4) (oi := { dst := some 10, op := Op.load 120 (Operand.tmp 9), type := 120, pos := "opts.go:174", after := #[{ on := 3, ground := Ground.data }], guard := none }) (v := ov) rfl (by kernel_rfl) (by kernel_rfl) (by kernel_rfl) (by kernel_rfl) (fun _ _ _ h => h) (Or.inl ⟨by rfl, fun w0 hS0 => ?_⟩) (by assumption) ?_
  · have c2 := (HCb.out _ hS0.1).2.1; go_simp
  try simp only [Act.put, List.setIfInBounds_toArray, List.set_cons_zero, List.set_cons_succ]
  refine B.Till.take (i := 5) (oi := { dst := some 11, op := Op.fieldAddr 254 (Operand.tmp 4) 0, type := 0, pos := "opts.go:174", after := #[], guard := none }) (v := .pointer (some ⟨B1, 0, none⟩)) rfl (by kernel_rfl) (by kernel_rfl) (by kernel_rfl) (by kernel_rfl) (fun _ _ _ h => h) (Or.inl ⟨by rfl, fun w0 hS0 => ?_⟩) (by assumption) ?_
  · go_simp
  try simp only [Act.put, List.setIfInBounds_toArray, List.set_cons_zero, List.set_cons_succ]
  refine B.Till.take (i := 6) (oi := { dst := some 12, op := Op.load 5 (Operand.tmp 11), type := 5, pos := "opts.go:174", after := #[{ on := 5, ground := Ground.data }], guard := none }) (v := .int .u8 s.letter) rfl (by kernel_rfl) (by kernel_rfl) (by kernel_rfl) (by kernel_rfl) (fun _ _ _ h => h) (Or.inl ⟨by rfl, fun w0 hS0 => ?_⟩) (by assumption) ?_
  · have r0 := HCx.out _ hS0.2; go_simp
  try simp only [Act.put, List.setIfInBounds_toArray, List.set_cons_zero, List.set_cons_succ]
  refine B.Till.take (i := 7) (oi := { dst := some 13, op := Op.move (Operand.tmp 2), type := 9, pos := "opts.go:174", after := #[], guard := none }) (v := .string v) rfl (by kernel_rfl) (by kernel_rfl) (by kernel_rfl) (by kernel_rfl) (fun _ _ _ h => h) (Or.inl ⟨by rfl, fun w0 hS0 => ?_⟩) (by assumption) ?_
  · go_simp
  try simp only [Act.put, List.setIfInBounds_toArray, List.set_cons_zero, List.set_cons_succ]
  refine B.Till.take (i := 8) (oi := { dst := some 14, op := Op.build 256 #[(0, Operand.tmp 12), (1, Operand.tmp 13)], type := 256, pos := "opts.go:174", after := #[{ on := 6, ground := Ground.data }, { on := 7, ground := Ground.data }], guard := none }) (v := .agg #[.int .u8 s.letter, .string v]) rfl (by kernel_rfl) (by kernel_rfl) (by kernel_rfl) (by kernel_rfl) (fun _ _ _ h => h) (Or.inl ⟨by rfl, fun w0 hS0 => ?_⟩) (by assumption) ?_
  · go_simp
  try simp only [Act.put, List.setIfInBounds_toArray, List.set_cons_zero, List.set_cons_succ]
  refine B.Till.next (i := 9) (o := { dst := some 15, op := Op.buildSlice 120 1 #[(0, Operand.tmp 14)], type := 120, pos := "opts.go:174", after := #[{ on := 8, ground := Ground.data }], guard := none }) (by kernel_rfl) rfl (fun K hK => ?_)
  go_simp
  refine hK.out _ _ (fun _ => ⟨(heap_alloc_old _ _ HLb.out).trans hHeld.1, (heap_alloc_old _ _ HLx.out).trans hHeld.2⟩) ?_
  clear hK K
  try simp only [Act.put, List.setIfInBounds_toArray, List.set_cons_zero, List.set_cons_succ]
  refine B.Till.next (i := 10) (o := { dst := some 16, op := Op.call { callee := Callee.builtin Builtin.append, args := #[Operand.tmp 10, Operand.tmp 15], argTypes := #[120, 120] }, type := 120, pos := "opts.go:174", after := #[{ on := 4, ground := Ground.data }, { on := 9, ground := Ground.data }], guard := none }) (by kernel_rfl) rfl (fun K hK => ?_)
  refine step_append_lies _ rfl (.tmp 10) (.tmp 15) 120 rfl W0.heap.size 256 i0 _ 2 24 Tryz.underlying120 hi0 hz0 hz1 hz2 rfl (by decide) ov O.length (cellsC opC O) (by simp [Act.eval]) HO3.out ⟨w3.heap.size, 0, none⟩ 1 1 (opC ⟨s.letter, v⟩) (by simp [Act.eval]) rfl (World.news_of_block (heap_alloc_new _ _)) (opC_one _) (by decide) (by unfold maxLen; omega) (by omega) HG3.out _ rfl ?_
  intro g1 cap1 w4 hown hgrow hat hlt1
  have hS4 : w4.heap[b]? = w3.heap[b]? ∧ w4.heap[B1]? = w3.heap[B1]? := ⟨(hgrow.block _ HLb2.out HNb.out).trans (heap_alloc_old _ _ HLb.out), (hgrow.block _ HLx2.out HNx.out).trans (heap_alloc_old _ _ HLx.out)⟩
  have HW4 := Lib.hid (HW3.out.option (E := [⟨s.letter, v⟩]) hown hgrow)
  clear hown hgrow hat hlt1
  refine hK.out _ _ (fun _ => hS4) ?_
  clear hK K
  try simp only [Act.put, List.setIfInBounds_toArray, List.set_cons_zero, List.set_cons_succ]
  refine B.Till.next (i := 11) (o := { dst := some 17, op := Op.nilCheck (Operand.tmp 6), type := 0, pos := "opts.go:174", after := #[{ on := 0, ground := Ground.data }, { on := 0, ground := Ground.phase }, { on := 1, ground := Ground.phase }, { on := 2, ground := Ground.phase }, { on := 3, ground := Ground.phase }, { on := 4, ground := Ground.phase }, { on := 5, ground := Ground.phase }, { on := 6, ground := Ground.phase }, { on := 7, ground := Ground.phase }, { on := 8, ground := Ground.phase }, { on := 9, ground := Ground.phase }, { on := 10, ground := Ground.phase }], guard := none }) (by kernel_rfl) rfl (fun K hK => ?_)
  go_simp
  refine hK.out _ _ (fun _ => hS4) ?_
  clear hK K
  try simp only [Act.put, List.setIfInBounds_toArray, List.set_cons_zero, List.set_cons_succ]
  refine B.Till.next (i := 12) (o := { dst := some 18, op := Op.fieldAddr 250 (Operand.tmp 17) 2, type := 0, pos := "opts.go:174", after := #[{ on := 11, ground := Ground.data }, { on := 0, ground := Ground.phase }, { on := 1, ground := Ground.phase }, { on := 2, ground := Ground.phase }, { on := 3, ground := Ground.phase }, { on := 4, ground := Ground.phase }, { on := 5, ground := Ground.phase }, { on := 6, ground := Ground.phase }, { on := 7, ground := Ground.phase }, { on := 8, ground := Ground.phase }, { on := 9, ground := Ground.phase }, { on := 10, ground := Ground.phase }], guard := none }) (by kernel_rfl) rfl (fun K hK => ?_)
  go_simp
  refine hK.out _ _ (fun _ => hS4) ?_
  clear hK K
  try simp only [Act.put, List.setIfInBounds_toArray, List.set_cons_zero, List.set_cons_succ]
  refine B.Till.next (i := 13) (o := { dst := none, op := Op.store 120 (Operand.tmp 18) (Operand.tmp 16), type := 0, pos := "opts.go:174", after := #[{ on := 12, ground := Ground.data }, { on := 10, ground := Ground.data }, { on := 10, ground := Ground.chain }, { on := 0, ground := Ground.phase }, { on := 1, ground := Ground.phase }, { on := 2, ground := Ground.phase }, { on := 3, ground := Ground.phase }, { on := 4, ground := Ground.phase }, { on := 5, ground := Ground.phase }, { on := 6, ground := Ground.phase }, { on := 7, ground := Ground.phase }, { on := 8, ground := Ground.phase }, { on := 9, ground := Ground.phase }, { on := 10, ground := Ground.phase }], guard := none }) (by kernel_rfl) rfl (fun K hK => ?_)
  obtain ⟨_, c2, _, ff⟩ := HCb.out _ hS4.1
  have f2 := ff 2
  clear ff
  go_simp
  refine hK.out _ _ (fun q => absurd rfl q) ?_
  clear hK K
  try simp only [Act.put, List.setIfInBounds_toArray, List.set_cons_zero, List.set_cons_succ]
  refine B.Till.done (by kernel_rfl) ?_
-- TILL 1 END
  go_wp2_with fail
  go_end0
  exact ⟨rfl, _, HW4.out⟩

set_option maxRecDepth 100000 in
set_option maxHeartbeats 4000000 in
theorem end_any (x : ByteArray) (h : Rdr W0 b sa sn sc la lc L O P ov pv w) (hP : P.length + L.length ≤ 100000) :
    Calls Tryz.prog 219 #[.pointer (some ⟨b, 0, none⟩), .string x] w fun e w' => Took W0 b sa sn sc (some (O, P ++ L, [])) e w' := by
  obtain ⟨it, hit, ht0, ht1, ht2⟩ := info_parts infoTxt
  have HCb := Lib.hid (fun W hW => h.same (W := W) hW)
  have HB := Lib.hid h.lt
  have HN := Lib.hid (fun k hk => h.p_ne (k := k) hk)
  have HK2 := Lib.hid (h.keep (show Below w.heap.size w w.drew from (Below.refl _ _).drew))
  have HO2 := Lib.hid HK2.out.opnd
  have HG2 := Lib.hid HK2.out.low.size
  have HL2 := Lib.hid (HK2.out.left.keep HK2.out.low)
  have HNl := Lib.hid h.lcap.2.2
  clear h
  go_enter Tryz.func219, Tryz.ntmps219
  go_upto_region 1 with fail
-- TILL 2
  refine B.Till.region (z := 12) (S := fun w' => w'.heap[b]? = w.heap[b]?) (by kernel_rfl) rfl (fun hHeld => ?_)
  refine B.Till.take (i := 0) (oi := { dst := some 5, op := Op.move (Operand.tmp 0), type := 303, pos := "opts.go:90", after := #[], guard := none }) (v := .pointer (some ⟨b, 0, none⟩)) rfl (by kernel_rfl) (by kernel_rfl) (by kernel_rfl) (by kernel_rfl) (fun _ _ _ h => h) (Or.inl ⟨by rfl, fun w0 hS0 => ?_⟩) (by assumption) ?_
  · go_simp
  try simp only [Act.put, List.setIfInBounds_toArray, List.set_cons_zero, List.set_cons_succ]
  refine B.Till.take (i := 1) (oi := { dst := some 6, op := Op.move (Operand.tmp 0), type := 303, pos := "opts.go:90", after := #[], guard := none }) (v := .pointer (some ⟨b, 0, none⟩)) rfl (by kernel_rfl) (by kernel_rfl) (by kernel_rfl) (by kernel_rfl) (fun _ _ _ h => h) (Or.inl ⟨by rfl, fun w0 hS0 => ?_⟩) (by assumption) ?_
  · go_simp
  try simp only [Act.put, List.setIfInBounds_toArray, List.set_cons_zero, List.set_cons_succ]
  refine B.Till.take (i := 2) (oi := { dst := some 7, op := Op.nilCheck (Operand.tmp 6), type := 0, pos := "opts.go:90", after := #[{ on := 1, ground := Ground.data }], guard := none }) (v := .pointer (some ⟨b, 0, none⟩)) rfl (by kernel_rfl) (by kernel_rfl) (by kernel_rfl) (by kernel_rfl) (fun _ _ _ h => h) (Or.inl ⟨by rfl, fun w0 hS0 => ?_⟩) (by assumption) ?_
  · go_simp
  try simp only [Act.put, List.setIfInBounds_toArray, List.set_cons_zero, List.set_cons_succ]
  refine B.Till.take (i := 3) (oi := { dst := some 8, op := Op.fieldAddr 250 (Operand.tmp 7) 3, type := 0, pos := "opts.go:90", after := #[{ on := 2, ground := Ground.data }], guard := none }) (v := .pointer (some ⟨b, 3, none⟩)) rfl (by kernel_rfl) (by kernel_rfl) (by kernel_rfl) (by kernel_rfl) (fun _ _ _ h => h) (Or.inl ⟨by rfl, fun w0 hS0 => ?_⟩) (by assumption) ?_
  · go_simp
  try simp only [Act.put, List.setIfInBounds_toArray, List.set_cons_zero, List.set_cons_succ]
  refine B.Till.take (i := 4) (oi := { dst := some 9, op := Op.load 40 (Operand.tmp 8), type := 40, pos := "opts.go:90", after := #[{ on := 3, ground := Ground.data }], guard := none }) (v := pv) rfl (by kernel_rfl) (by kernel_rfl) (by kernel_rfl) (by kernel_rfl) (fun _ _ _ h => h) (Or.inl ⟨by rfl, fun w0 hS0 => ?_⟩) (by assumption) ?_
  · have c3 := (HCb.out _ hS0).2.2.1; go_simp
  try simp only [Act.put, List.setIfInBounds_toArray, List.set_cons_zero, List.set_cons_succ]
  refine B.Till.take (i := 5) (oi := { dst := some 10, op := Op.move (Operand.tmp 0), type := 303, pos := "opts.go:90", after := #[], guard := none }) (v := .pointer (some ⟨b, 0, none⟩)) rfl (by kernel_rfl) (by kernel_rfl) (by kernel_rfl) (by kernel_rfl) (fun _ _ _ h => h) (Or.inl ⟨by rfl, fun w0 hS0 => ?_⟩) (by assumption) ?_
  · go_simp
  try simp only [Act.put, List.setIfInBounds_toArray, List.set_cons_zero, List.set_cons_succ]
  refine B.Till.take (i := 6) (oi := { dst := some 11, op := Op.nilCheck (Operand.tmp 10), type := 0, pos := "opts.go:90", after := #[{ on := 5, ground := Ground.data }], guard := none }) (v := .pointer (some ⟨b, 0, none⟩)) rfl (by kernel_rfl) (by kernel_rfl) (by kernel_rfl) (by kernel_rfl) (fun _ _ _ h => h) (Or.inl ⟨by rfl, fun w0 hS0 => ?_⟩) (by assumption) ?_
  · go_simp
  try simp only [Act.put, List.setIfInBounds_toArray, List.set_cons_zero, List.set_cons_succ]
  refine B.Till.take (i := 7) (oi := { dst := some 12, op := Op.fieldAddr 250 (Operand.tmp 11) 1, type := 0, pos := "opts.go:90", after := #[{ on := 6, ground := Ground.data }], guard := none }) (v := .pointer (some ⟨b, 1, none⟩)) rfl (by kernel_rfl) (by kernel_rfl) (by kernel_rfl) (by kernel_rfl) (fun _ _ _ h => h) (Or.inl ⟨by rfl, fun w0 hS0 => ?_⟩) (by assumption) ?_
  · go_simp
  try simp only [Act.put, List.setIfInBounds_toArray, List.set_cons_zero, List.set_cons_succ]
  refine B.Till.take (i := 8) (oi := { dst := some 13, op := Op.load 40 (Operand.tmp 12), type := 40, pos := "opts.go:90", after := #[{ on := 7, ground := Ground.data }], guard := none }) (v := .slice la L.length lc) rfl (by kernel_rfl) (by kernel_rfl) (by kernel_rfl) (by kernel_rfl) (fun _ _ _ h => h) (Or.inl ⟨by rfl, fun w0 hS0 => ?_⟩) (by assumption) ?_
  · have c1 := (HCb.out _ hS0).1; go_simp
  try simp only [Act.put, List.setIfInBounds_toArray, List.set_cons_zero, List.set_cons_succ]
  refine B.Till.next (i := 9) (o := { dst := some 14, op := Op.call { callee := Callee.builtin Builtin.append, args := #[Operand.tmp 9, Operand.tmp 13], argTypes := #[40, 40] }, type := 40, pos := "opts.go:90", after := #[{ on := 4, ground := Ground.data }, { on := 8, ground := Ground.data }], guard := none }) (by kernel_rfl) rfl (fun K hK => ?_)
  refine step_append_rowL rfl (.tmp 9) (.tmp 13) 40 rfl W0.heap.size 9 it (.string ⟨#[]⟩) 16 Tryz.underlying40 hit ht0 ht1 ht2 rfl (by decide) txC_len txC_one pv P.length (strs P) (by simp [Act.eval]) HO2.out la lc L (by simp [Act.eval]) HL2.out HNl.out (by unfold maxLen; omega) (by omega) HG2.out ?_
  intro ao cp w5 hown hgrow
  rw [txC_strs] at hown
  have hb5 : w5.heap[b]? = w.heap[b]? := hgrow.block b HB.out (fun e => HN.out _ e.symm rfl)
  have HW5 := Lib.hid (HK2.out.operand (E := L) hown hgrow)
  clear hown hgrow
  refine hK.out _ _ (fun _ => hb5) ?_
  clear hK K
  try simp only [Act.put, List.setIfInBounds_toArray, List.set_cons_zero, List.set_cons_succ]
  refine B.Till.next (i := 10) (o := { dst := some 15, op := Op.nilCheck (Operand.tmp 5), type := 0, pos := "opts.go:90", after := #[{ on := 0, ground := Ground.data }, { on := 0, ground := Ground.phase }, { on := 1, ground := Ground.phase }, { on := 2, ground := Ground.phase }, { on := 3, ground := Ground.phase }, { on := 4, ground := Ground.phase }, { on := 5, ground := Ground.phase }, { on := 6, ground := Ground.phase }, { on := 7, ground := Ground.phase }, { on := 8, ground := Ground.phase }, { on := 9, ground := Ground.phase }], guard := none }) (by kernel_rfl) rfl (fun K hK => ?_)
  go_simp
  refine hK.out _ _ (fun _ => hb5) ?_
  clear hK K
  try simp only [Act.put, List.setIfInBounds_toArray, List.set_cons_zero, List.set_cons_succ]
  refine B.Till.next (i := 11) (o := { dst := some 16, op := Op.fieldAddr 250 (Operand.tmp 15) 3, type := 0, pos := "opts.go:90", after := #[{ on := 10, ground := Ground.data }, { on := 0, ground := Ground.phase }, { on := 1, ground := Ground.phase }, { on := 2, ground := Ground.phase }, { on := 3, ground := Ground.phase }, { on := 4, ground := Ground.phase }, { on := 5, ground := Ground.phase }, { on := 6, ground := Ground.phase }, { on := 7, ground := Ground.phase }, { on := 8, ground := Ground.phase }, { on := 9, ground := Ground.phase }], guard := none }) (by kernel_rfl) rfl (fun K hK => ?_)
  go_simp
  refine hK.out _ _ (fun _ => hb5) ?_
  clear hK K
  try simp only [Act.put, List.setIfInBounds_toArray, List.set_cons_zero, List.set_cons_succ]
  refine B.Till.next (i := 12) (o := { dst := none, op := Op.store 40 (Operand.tmp 16) (Operand.tmp 14), type := 0, pos := "opts.go:90", after := #[{ on := 11, ground := Ground.data }, { on := 9, ground := Ground.data }, { on := 9, ground := Ground.chain }, { on := 0, ground := Ground.phase }, { on := 1, ground := Ground.phase }, { on := 2, ground := Ground.phase }, { on := 3, ground := Ground.phase }, { on := 4, ground := Ground.phase }, { on := 5, ground := Ground.phase }, { on := 6, ground := Ground.phase }, { on := 7, ground := Ground.phase }, { on := 8, ground := Ground.phase }, { on := 9, ground := Ground.phase }], guard := none }) (by kernel_rfl) rfl (fun K hK => ?_)
  obtain ⟨_, _, c3, ff⟩ := HCb.out _ hb5
  have f3 := ff 3
  clear ff
  go_simp
  refine hK.out _ _ (fun q => absurd rfl q) ?_
  clear hK K
  try simp only [Act.put, List.setIfInBounds_toArray, List.set_cons_zero, List.set_cons_succ]
  refine B.Till.done (by kernel_rfl) ?_
-- TILL 2 END
  generalize w5.setCell ⟨b, 3, none⟩ (.slice ao (P.length + L.length) cp) = w6 at HW5 ⊢
  clear c3 f3 hb5 hHeld
  have c1 := HW5.out.cell (j := 1) rfl
  have f1 := HW5.out.free 1
  have HX := Lib.hid (HW5.out.take (la' := none) (lc' := 0) (L' := []) (RowL.nil _ _) ⟨by decide, by decide, fun _ => rfl⟩)
  go_wp2_with fail
  go_ret
  exact Took.yes HX.out

end
end Go.Proofs.YtknfhphhcnbndaaGreatDoor.A
