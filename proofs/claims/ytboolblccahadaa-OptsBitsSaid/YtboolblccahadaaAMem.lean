/-
  Arguments being read, as the reader lies in memory: specs, what is left, options, operands; what a step makes of it. Conditions: each fact's own.
-/
import Derived.Test.YtboolblccahadaaRow
import Derived.Test.YtboolblccahadaaAModM
set_option linter.unusedVariables false
namespace Go.Proofs.Ytboolblccahadaa.A
open Go.Proofs.Ytboolblccahadaa.B
open Go.RowKit

/-! ### texts, as a walk compares them -/
theorem txt_emp {s : ByteArray} (h : s.size = 0) : s.data = #[] ∧ s.toList = [] ∧ s.toList.isEmpty = true ∧ listB s = [] := by
  have h1 : s.data = #[] := Array.eq_empty_of_size_eq_zero h
  have h2 : s.toList = [] := by rw [Lib.toList_data, h1]
  exact ⟨h1, h2, by rw [h2]; rfl, by unfold listB; rw [h1]⟩
theorem txt_non {s : ByteArray} (h : 0 < s.size) : s.data ≠ #[] ∧ (s.toList == []) = false ∧ s.toList ≠ [] ∧ s.toList.isEmpty = false ∧ listB s ≠ [] := by
  have h1 : s.data.toList ≠ [] := fun z => by rw [← size_list, z] at h; exact absurd h (by decide)
  have h2 : s.toList ≠ [] := fun z => by
    rw [Lib.toList_data] at z
    exact h1 z
  exact ⟨fun z => h1 (by rw [z]), beq_eq_false_iff_ne.2 h2, h2, by rw [List.isEmpty_eq_false_iff]; exact h2, h1⟩
theorem txt_eq {a b : ByteArray} (h : a = b) : (a.toList == b.toList) = true := by rw [h]; exact beq_self_eq_true _
theorem txt_ne {a b : ByteArray} (h : a ≠ b) : a.data ≠ b.data ∧ (a.toList == b.toList) = false ∧ a.toList ≠ b.toList := by
  have h2 : a.toList ≠ b.toList := fun z => by
    rw [Lib.toList_data, Lib.toList_data] at z
    exact h (ByteArray.ext (Array.toList_inj.1 z))
  exact ⟨fun z => h (ByteArray.ext z), beq_eq_false_iff_ne.2 h2, h2⟩
theorem listB_inj {a b : ByteArray} (h : listB a = listB b) : a = b := ByteArray.ext (Array.toList_inj.1 h)
theorem listB_len (s : ByteArray) : (listB s).length = s.size := size_list s
theorem byL_listB (s : ByteArray) : byL (listB s) = s := rfl
theorem listB_byL (l : List UInt8) : listB (byL l) = l := rfl

/-! ### a spec, an option, cell by cell -/
def spC (s : Sp) : List Value := [.int .u8 s.letter, .string s.long, .bool s.value]
def spV (s : Sp) : Value := .agg #[.int .u8 s.letter, .string s.long, .bool s.value]
theorem spC_len (s : Sp) : (spC s).length = 3 := rfl
def opC (o : Op) : List Value := [.int .u8 o.letter, .string o.value]
def opV (o : Op) : Value := .agg #[.int .u8 o.letter, .string o.value]
theorem opC_len (o : Op) : (opC o).length = 2 := rfl
theorem opC_one (o : Op) : ∀ u ∈ opC o, u.oneCell' = true := by
  intro u hu
  simp only [opC, List.mem_cons, List.not_mem_nil, or_false] at hu
  rcases hu with rfl | rfl <;> rfl
theorem opCs_one (l : List Op) : ∀ u ∈ cellsC opC l, u.oneCell' = true := cellsC_mem l fun x _ => opC_one x
theorem opCs_len (l : List Op) : (cellsC opC l).length = l.length * 2 := cellsC_len opC_len l
/-- The slice at a holds these specs. -/
abbrev SpsL (w : World) (a : Option Addr) (l : List Sp) : Prop := RowL 3 spC w a l
theorem sps_at {w : World} {a : Option Addr} {l : List Sp} (h : SpsL w a l) {i : Nat} {s : Sp} (hs : l[i]? = some s) : ∃ g o, a = some ⟨g, o, none⟩ ∧ g < w.heap.size ∧ w.cell? ⟨g, o + i * 3, none⟩ = some (.int .u8 s.letter) ∧ w.cell? ⟨g, o + i * 3 + 1, none⟩ = some (.string s.long) ∧ w.cell? ⟨g, o + i * 3 + 2, none⟩ = some (.bool s.value) := by
  obtain ⟨g, o, h1, h0, h2⟩ := h.at_ hs
  exact ⟨g, o, h1, h0, h2 0 _ rfl, h2 1 _ rfl, h2 2 _ rfl⟩
theorem infoTxt : (Try.prog.info? 9).map (fun i => (i.zero, i.size, i.bytes)) = some (some (.string ⟨#[]⟩), 1, 16) := by kernel_rfl
theorem infoOp : (Try.prog.info? 35).map (fun i => (i.zero, i.size, i.bytes)) = some (some (.agg #[.int .u8 0, .string ⟨#[]⟩]), 2, 24) := by kernel_rfl
theorem info_parts {P : Program} {t : TypeId} {z : Value} {n b : Nat} (h : (P.info? t).map (fun i => (i.zero, i.size, i.bytes)) = some (some z, n, b)) : ∃ i, P.info? t = some i ∧ i.zero = some z ∧ i.size = n ∧ i.bytes = b := by
  obtain ⟨i, hi, e⟩ := Option.map_eq_some_iff.1 h
  simp only [Prod.mk.injEq] at e
  exact ⟨i, hi, e.1, e.2.1, e.2.2⟩

theorem sizeSp : (Try.prog.info? 42).map (·.size) = some 3 := by kernel_rfl
theorem sizeOp : (Try.prog.info? 35).map (·.size) = some 2 := by kernel_rfl
/-- A result that lies in a cell, and one beside it. -/
theorem results_pair {P : Program} {fn : Func} {p q : Tmp} {ty : TypeId} (h : fn.results = #[.cell p ty, .tmp q]) (tmps : Array Value) (w : World) (g : Nat) (t : TypeId) (cs : Array Value) (fr : Nat × Nat) (d : TypeDesc) (v : Value)
    (hp : tmps.getD p undef = .pointer (some ⟨g, 0, none⟩)) (hq : tmps.getD q undef = v) (hg : w.heap[g]? = some (.cells cs t fr))
    (hu : P.underlying ty = some d) (hd : (match d with | .struct _ | .array _ _ => true | _ => false) = true) (hi : (P.info? ty).map (·.size) = some cs.size) :
    (results fn tmps).run P w = .ok (.tuple #[.agg cs, v]) w := by
  have hp' : tmps[p]?.getD undef = .pointer (some ⟨g, 0, none⟩) := by simpa using hp
  have hq' : tmps[q]?.getD undef = v := by simpa using hq
  simp [results, h, hp', hq', asAddr, run_loadVar_row w g t ty cs fr d hg hu hd hi, Result.andThen]
def noSpC : Array Value := #[.int .u8 0, .string ⟨#[]⟩, .bool false]
theorem below_setRow {B g : Nat} {a w : World} (h : Below B a w) (hg : B ≤ g) (cs : Array Value) : Below B a (w.setRow g cs) :=
  ⟨h.os, h.tape, h.output, by have := h.size; simp [World.setRow]; omega, fun k hk => by rw [setRow_other _ _ _ _ (by omega)]; exact h.block k hk⟩
/-- What lies where a step has written one row of its own. -/
def spR (r : Option Sp) : Value := .tuple #[spV (r.getD noSp), .bool r.isSome]

/-- The world's library variable holds some number. -/
def MaxT (w : World) : Prop := ∃ m, w.cell? ⟨0, 0, none⟩ = some (.int .i64 m)
theorem cell_lt {w : World} {a : Addr} {v : Value} (h : w.cell? a = some v) : a.block < w.heap.size := by
  apply Classical.byContradiction
  intro hn
  have : w.heap[a.block]? = none := Array.getElem?_eq_none (by omega)
  unfold World.cell? at h
  simp [this] at h
theorem MaxT.keep {w w' : World} (h : MaxT w) (hb : Below w.heap.size w w') : MaxT w' := by
  obtain ⟨m, hm⟩ := h
  exact ⟨m, (hb.cell (cell_lt hm)).trans hm⟩

/-- Rows of options and of texts lie apart. -/
theorem owns_apart {w : World} {b1 b2 : Nat} {s1 s2 n m : Nat} {v u : Value} {xs ys : List Value} (h : w.ownsRow b1 35 s1 v n xs) (k : w.ownsRow b2 9 s2 u m ys) : v.ownBlock = none ∨ v.ownBlock ≠ u.ownBlock := by
  cases hv : v.ownBlock with
  | none => exact .inl rfl
  | some j =>
    right
    intro e
    obtain ⟨cur, hc⟩ := owns_type h hv
    obtain ⟨cur', hc'⟩ := owns_type k e.symm
    rw [hc'] at hc
    simp at hc
theorem owns_apart' {w : World} {b1 b2 : Nat} {s1 s2 n m : Nat} {v u : Value} {xs ys : List Value} (h : w.ownsRow b1 35 s1 v n xs) (k : w.ownsRow b2 9 s2 u m ys) : u.ownBlock = none ∨ u.ownBlock ≠ v.ownBlock := by
  rcases owns_apart h k with q | q
  · cases hu : u.ownBlock with
    | none => exact .inl rfl
    | some j => rw [q]; exact .inr (by simp)
  · exact .inr fun e => q e.symm

/-! ### the reader -/
structure Rdr (W0 : World) (b : Nat) (sa : Option Addr) (sn sc : Nat) (la : Option Addr) (lc : Nat) (L : List ByteArray) (O : List Op) (P : List ByteArray) (ov pv : Value) (w : World) : Prop where
  head : w.heap[b]? = some (.cells #[.slice sa sn sc, .slice la L.length lc, ov, pv] 44 (0, 0))
  left : TxtL W0 la L
  lcap : L.length ≤ lc ∧ lc ≤ maxLen ∧ (la = none → lc = 0)
  opts : w.ownsRow W0.heap.size 35 2 ov O.length (cellsC opC O)
  opnd : w.ownsRow W0.heap.size 9 1 pv P.length (strs P)
  low : Below W0.heap.size W0 w
  ge : W0.heap.size ≤ b
section
variable {W0 : World} {b : Nat} {sa : Option Addr} {sn sc : Nat} {la : Option Addr} {lc : Nat} {L : List ByteArray} {O : List Op} {P : List ByteArray} {ov pv : Value} {w w' w1 : World}
theorem Rdr.keep (h : Rdr W0 b sa sn sc la lc L O P ov pv w) (hb : Below w.heap.size w w') : Rdr W0 b sa sn sc la lc L O P ov pv w' :=
  ⟨(hb.block _ (heap_lt h.head)).trans h.head, h.left, h.lcap, owns_to h.opts hb, owns_to h.opnd hb, h.low.trans (hb.mono h.low.size), h.ge⟩
theorem Rdr.cell (h : Rdr W0 b sa sn sc la lc L O P ov pv w) {j : Nat} {v : Value} (hj : (#[.slice sa sn sc, .slice la L.length lc, ov, pv] : Array Value)[j]? = some v) : w.cell? ⟨b, j, none⟩ = some v := by
  rw [cell_of_row _ _ _ _ _ _ h.head]; exact hj
theorem Rdr.free (h : Rdr W0 b sa sn sc la lc L O P ov pv w) (j : Nat) : w.frozen? ⟨b, j, none⟩ = false := frozen_of_row _ _ _ _ _ h.head
theorem Rdr.lt (h : Rdr W0 b sa sn sc la lc L O P ov pv w) : b < w.heap.size := heap_lt h.head
theorem Rdr.o_ne (h : Rdr W0 b sa sn sc la lc L O P ov pv w) {k : Nat} (hk : ov.ownBlock = some k) : k ≠ b := by
  rintro rfl
  obtain ⟨cur, hc⟩ := owns_type h.opts hk
  rw [h.head] at hc
  simp at hc
theorem Rdr.p_ne (h : Rdr W0 b sa sn sc la lc L O P ov pv w) {k : Nat} (hk : pv.ownBlock = some k) : k ≠ b := by
  rintro rfl
  obtain ⟨cur, hc⟩ := owns_type h.opnd hk
  rw [h.head] at hc
  simp at hc
theorem Rdr.op_ne (h : Rdr W0 b sa sn sc la lc L O P ov pv w) {k j : Nat} (hk : ov.ownBlock = some k) (hj : pv.ownBlock = some j) : k ≠ j := by
  rintro rfl
  obtain ⟨cur, hc⟩ := owns_type h.opts hk
  obtain ⟨cur', hc'⟩ := owns_type h.opnd hj
  rw [hc'] at hc
  simp at hc
/-- Behind a store of what is left. -/
theorem Rdr.take (h : Rdr W0 b sa sn sc la lc L O P ov pv w) {la' : Option Addr} {lc' : Nat} {L' : List ByteArray} (hl : TxtL W0 la' L') (hc : L'.length ≤ lc' ∧ lc' ≤ maxLen ∧ (la' = none → lc' = 0)) : Rdr W0 b sa sn sc la' lc' L' O P ov pv (w.setCell ⟨b, 1, none⟩ (.slice la' L'.length lc')) := by
  refine ⟨heap_setCell_same _ _ _ _ _ _ h.head, hl, hc, ?_, ?_, h.low.setCell h.ge _, h.ge⟩
  · exact owns_at h.opts fun k hk => heap_setCell_other _ _ _ _ (h.o_ne hk)
  · exact owns_at h.opnd fun k hk => heap_setCell_other _ _ _ _ (h.p_ne hk)
/-- Behind an append of options, and the store of the new slice. -/
theorem Rdr.option (h : Rdr W0 b sa sn sc la lc L O P ov pv w) {E : List Op} {v1 : Value} (ho : w1.ownsRow W0.heap.size 35 2 v1 (O.length + E.length) (cellsC opC O ++ cellsC opC E)) (hg : w.grownBy w1 ov.ownBlock) :
    Rdr W0 b sa sn sc la lc L (O ++ E) P v1 pv (w1.setCell ⟨b, 2, none⟩ v1) := by
  have hh : w1.heap[b]? = some (.cells #[.slice sa sn sc, .slice la L.length lc, ov, pv] 44 (0, 0)) := (hg.block b h.lt (fun e => h.o_ne e.symm rfl)).trans h.head
  have hne : ∀ k, v1.ownBlock = some k → k ≠ b := fun k hk => by
    rintro rfl
    obtain ⟨cur, hc⟩ := owns_type ho hk
    rw [hh] at hc
    simp at hc
  refine ⟨heap_setCell_same _ _ _ _ _ _ hh, h.left, h.lcap, ?_, ?_, ?_, h.ge⟩
  · rw [List.length_append, cellsC_app]
    exact owns_at ho fun k hk => heap_setCell_other _ _ _ _ (hne k hk)
  · refine owns_at h.opnd fun k hk => ?_
    rw [heap_setCell_other _ _ _ _ (h.p_ne hk)]
    exact hg.block k (h.opnd.lt k hk).2 (fun e => h.op_ne e.symm hk rfl)
  · exact (h.low.grown hg h.low.size (fun k e => (h.opts.lt k e).1)).setCell h.ge _
/-- Behind an append of operands, and the store of the new slice. -/
theorem Rdr.operand (h : Rdr W0 b sa sn sc la lc L O P ov pv w) {E : List ByteArray} {v1 : Value} (ho : w1.ownsRow W0.heap.size 9 1 v1 (P.length + E.length) (strs P ++ strs E)) (hg : w.grownBy w1 pv.ownBlock) :
    Rdr W0 b sa sn sc la lc L O (P ++ E) ov v1 (w1.setCell ⟨b, 3, none⟩ v1) := by
  have hh : w1.heap[b]? = some (.cells #[.slice sa sn sc, .slice la L.length lc, ov, pv] 44 (0, 0)) := (hg.block b h.lt (fun e => h.p_ne e.symm rfl)).trans h.head
  have hne : ∀ k, v1.ownBlock = some k → k ≠ b := fun k hk => by
    rintro rfl
    obtain ⟨cur, hc⟩ := owns_type ho hk
    rw [hh] at hc
    simp at hc
  refine ⟨heap_setCell_same _ _ _ _ _ _ hh, h.left, h.lcap, ?_, ?_, ?_, h.ge⟩
  · refine owns_at h.opts fun k hk => ?_
    rw [heap_setCell_other _ _ _ _ (h.o_ne hk)]
    exact hg.block k (h.opts.lt k hk).2 (fun e => h.op_ne hk e.symm rfl)
  · rw [List.length_append, strs_app]
    exact owns_at ho fun k hk => heap_setCell_other _ _ _ _ (hne k hk)
  · exact (h.low.grown hg h.low.size (fun k e => (h.opnd.lt k e).1)).setCell h.ge _
end

/-- What a step answers: whether the argument is well; then the reader is as the model's step has it. -/
def Took (W0 : World) (b : Nat) (sa : Option Addr) (sn sc : Nat) (st : Option (List Op × List ByteArray × List ByteArray)) (e : Ending) (w' : World) : Prop := match st with
  | none => e = .returned (.bool false) ∧ Below W0.heap.size W0 w'
  | some s => e = .returned (.bool true) ∧ ∃ la' lc' ov' pv', Rdr W0 b sa sn sc la' lc' s.2.2 s.1 s.2.1 ov' pv' w'
theorem Took.no {W0 : World} {b : Nat} {sa : Option Addr} {sn sc : Nat} {w' : World} (h : Below W0.heap.size W0 w') : Took W0 b sa sn sc none (.returned (.bool false)) w' := ⟨rfl, h⟩
theorem Took.is {W0 : World} {b : Nat} {sa : Option Addr} {sn sc : Nat} {w' : World} {st : Option (List Op × List ByteArray × List ByteArray)} {e : Ending} (h : Took W0 b sa sn sc st e w') : e = .returned (.bool st.isSome) ∧ Took W0 b sa sn sc st (.returned (.bool st.isSome)) w' := by
  cases st with
  | none => exact ⟨h.1, rfl, h.2⟩
  | some s => exact ⟨h.1, rfl, h.2⟩
theorem Took.yes {W0 : World} {b : Nat} {sa : Option Addr} {sn sc : Nat} {w' : World} {O : List Op} {P L : List ByteArray} {la' : Option Addr} {lc' : Nat} {ov' pv' : Value} (h : Rdr W0 b sa sn sc la' lc' L O P ov' pv' w') : Took W0 b sa sn sc (some (O, P, L)) (.returned (.bool true)) w' := ⟨rfl, la', lc', ov', pv', h⟩
end Go.Proofs.Ytboolblccahadaa.A
