/-
  What lies in memory while the program sorts: the keys, the captured variables, the places and the spare row. Conditions: each fact's own.
-/
import Derived.Test.YteeddednonmglaaDoorOPr5
import Derived.Test.YteeddednonmglaaDoorOArrM
import Derived.Test.YteeddednonmglaaDoorOSort
import Derived.Laws.CopyOwn
set_option linter.unusedVariables false
namespace Go.Proofs.YteeddednonmglaaDoor
open Go.RowKit

structure Cfg where
  w0 : World
  o : Int
  rev : Bool
  dirs : Bool
  l : List Ky
  a : Option Addr
  cap : Nat
  bo : Nat
  br : Nat
  bd : Nat
  bl : Nat
  gp : Nat
  bp : Nat
  bc : Nat
  gs : Nat
  bs : Nat
  ba : Nat
/-- A variable that is captured. -/
def Box (W : World) (k : Nat) (v : Value) : Prop := ∃ t, W.heap[k]? = some (.cells #[v] t (0, 0))
theorem Box.cell {W : World} {k : Nat} {v : Value} (h : Box W k v) : W.cell? ⟨k, 0, none⟩ = some v := by
  obtain ⟨t, h⟩ := h
  rw [cell_of_row _ _ _ _ _ _ h]
  rfl
theorem Box.at_ {W W' : World} {k : Nat} {v : Value} (h : Box W k v) (e : W'.heap[k]? = W.heap[k]?) : Box W' k v := h.elim fun t h => ⟨t, e.trans h⟩
theorem Box.keep {W W' : World} {k : Nat} {v : Value} (h : Box W k v) (hb : Below W.heap.size W W') : Box W' k v := h.at_ (hb.block _ (h.elim fun _ h => heap_lt h))
def natsV (Z : List Nat) : List Value := Z.map fun i : Nat => .int .i64 (i : Int)
theorem natsV_len (Z : List Nat) : (natsV Z).length = Z.length := by unfold natsV; rw [List.length_map]
theorem natsV_get {Z : List Nat} {k x : Nat} (h : Z[k]? = some x) : (natsV Z)[k]? = some (.int .i64 (x : Int)) := by
  unfold natsV
  rw [List.getElem?_map, h]
  rfl
theorem natsV_ints (Z : List Nat) : natsV Z = ints (Z.map fun i : Nat => (i : Int)) := by
  unfold natsV ints
  rw [List.map_map]
  rfl
def cloV (C : Cfg) : Value := .func (.func 18) #[] #[.pointer (some ⟨C.bo, 0, none⟩), .pointer (some ⟨C.br, 0, none⟩), .pointer (some ⟨C.bd, 0, none⟩), .pointer (some ⟨C.bl, 0, none⟩)]
def arrV (C : Cfg) : Value := .func (.func 20) #[] #[.pointer (some ⟨C.ba, 0, none⟩), .pointer (some ⟨C.bs, 0, none⟩), .pointer (some ⟨C.bp, 0, none⟩), .pointer (some ⟨C.bc, 0, none⟩)]
structure CfgOK (C : Cfg) : Prop where
  ne : C.gp ≠ C.gs
  np : C.bo ≠ C.gp ∧ C.br ≠ C.gp ∧ C.bd ≠ C.gp ∧ C.bl ≠ C.gp ∧ C.bp ≠ C.gp ∧ C.bc ≠ C.gp ∧ C.bs ≠ C.gp ∧ C.ba ≠ C.gp
  ns : C.bo ≠ C.gs ∧ C.br ≠ C.gs ∧ C.bd ≠ C.gs ∧ C.bl ≠ C.gs ∧ C.bp ≠ C.gs ∧ C.bc ≠ C.gs ∧ C.bs ≠ C.gs ∧ C.ba ≠ C.gs
  hp : C.w0.heap.size ≤ C.gp
  hs : C.w0.heap.size ≤ C.gs
  keys : IsKeys C.w0 C.a C.l
  few : C.l.length ≤ 1000
  small : ∀ c ∈ C.l, c.name.size ≤ 60000
structure SI (C : Cfg) (Z X : List Nat) (W : World) : Prop where
  low : Below C.w0.heap.size C.w0 W
  xo : Box W C.bo (.int .i64 C.o)
  xr : Box W C.br (.bool C.rev)
  xd : Box W C.bd (.bool C.dirs)
  xl : Box W C.bl (.slice C.a C.l.length C.cap)
  xp : Box W C.bp (.slice (some ⟨C.gp, 0, none⟩) C.l.length C.l.length)
  xc : Box W C.bc (cloV C)
  xs : Box W C.bs (.slice (some ⟨C.gs, 0, none⟩) C.l.length C.l.length)
  xa : Box W C.ba (arrV C)
  pl : W.heap[C.gp]? = some (.cells (natsV Z).toArray 3 (0, 0))
  sp : W.heap[C.gs]? = some (.cells (natsV X).toArray 3 (0, 0))
  lz : Z.length = C.l.length
  lx : X.length = C.l.length
theorem SI.keep {C : Cfg} {Z X : List Nat} {W W' : World} (h : SI C Z X W) (hb : Below W.heap.size W W') : SI C Z X W' :=
  ⟨below_two h.low hb, h.xo.keep hb, h.xr.keep hb, h.xd.keep hb, h.xl.keep hb, h.xp.keep hb, h.xc.keep hb, h.xs.keep hb, h.xa.keep hb, (hb.block _ (heap_lt h.pl)).trans h.pl, (hb.block _ (heap_lt h.sp)).trans h.sp, h.lz, h.lx⟩
theorem SI.place {C : Cfg} {Z X : List Nat} {W : World} (h : SI C Z X W) {j x : Nat} (hj : Z[j]? = some x) : W.cell? ⟨C.gp, j, none⟩ = some (.int .i64 (x : Int)) := by
  rw [cell_of_row _ _ _ _ _ _ h.pl, List.getElem?_toArray]
  exact natsV_get hj
theorem SI.spare {C : Cfg} {Z X : List Nat} {W : World} (h : SI C Z X W) {j x : Nat} (hj : X[j]? = some x) : W.cell? ⟨C.gs, j, none⟩ = some (.int .i64 (x : Int)) := by
  rw [cell_of_row _ _ _ _ _ _ h.sp, List.getElem?_toArray]
  exact natsV_get hj
theorem SI.setP {C : Cfg} {Z X : List Nat} {W : World} (k : CfgOK C) (h : SI C Z X W) (j v : Nat) : SI C (Z.set j v) X (W.setCell ⟨C.gp, j, none⟩ (.int .i64 (v : Int))) := by
  obtain ⟨n1, n2, n3, n4, n5, n6, n7, n8⟩ := k.np
  have f : ∀ b, b ≠ C.gp → (W.setCell ⟨C.gp, j, none⟩ (.int .i64 (v : Int))).heap[b]? = W.heap[b]? := fun b hb => heap_setCell_other _ _ _ _ hb
  refine ⟨h.low.setCell (p := ⟨C.gp, j, none⟩) k.hp _, h.xo.at_ (f _ n1), h.xr.at_ (f _ n2), h.xd.at_ (f _ n3), h.xl.at_ (f _ n4), h.xp.at_ (f _ n5), h.xc.at_ (f _ n6), h.xs.at_ (f _ n7), h.xa.at_ (f _ n8), ?_, (f _ (Ne.symm k.ne)).trans h.sp, by rw [List.length_set]; exact h.lz, h.lx⟩
  rw [heap_setCell_same _ _ _ _ _ _ h.pl]
  congr 2
  unfold natsV
  rw [List.setIfInBounds_toArray, List.map_set]
theorem SI.setS {C : Cfg} {Z X : List Nat} {W : World} (k : CfgOK C) (h : SI C Z X W) (off : Nat) (cs : List Nat) (hf : off + cs.length ≤ C.l.length) : SI C Z (splice X off cs) (W.setRow C.gs ((natsV X).take off ++ (natsV cs ++ (natsV X).drop (off + (natsV cs).length))).toArray) := by
  obtain ⟨n1, n2, n3, n4, n5, n6, n7, n8⟩ := k.ns
  have f : ∀ b, b ≠ C.gs → (W.setRow C.gs ((natsV X).take off ++ (natsV cs ++ (natsV X).drop (off + (natsV cs).length))).toArray).heap[b]? = W.heap[b]? := fun b hb => setRow_other _ _ _ _ hb
  refine ⟨below_setRow h.low k.hs _, h.xo.at_ (f _ n1), h.xr.at_ (f _ n2), h.xd.at_ (f _ n3), h.xl.at_ (f _ n4), h.xp.at_ (f _ n5), h.xc.at_ (f _ n6), h.xs.at_ (f _ n7), h.xa.at_ (f _ n8), (f _ k.ne).trans h.pl, ?_, h.lz, by rw [length_splice _ _ _ (by rw [h.lx]; exact hf)]; exact h.lx⟩
  rw [setRow_heap _ _ _ _ _ _ h.sp]
  congr 2
  unfold splice natsV
  rw [List.map_append, List.map_append, List.map_take, List.map_drop, List.length_map]
theorem SI.clo {C : Cfg} {Z X : List Nat} {W : World} (k : CfgOK C) (h : SI C Z X W) {y x : Nat} (hy : y < C.l.length) (hx : x < C.l.length) :
    Calls Tryd.prog 18 #[.int .i64 (y : Int), .int .i64 (x : Int), .pointer (some ⟨C.bo, 0, none⟩), .pointer (some ⟨C.br, 0, none⟩), .pointer (some ⟨C.bd, 0, none⟩), .pointer (some ⟨C.bl, 0, none⟩)] W fun e w' => e = .returned (.bool (decide (soC C.o C.rev C.dirs (C.l.getD y noKy) (C.l.getD x noKy) < 0))) ∧ Below W.heap.size W w' := by
  have f := k.few
  exact pclo_any C.o C.rev C.dirs C.l C.a C.cap y x C.bo C.br C.bd C.bl W (k.keys.keep h.low) (by omega) k.small hy hx (fun W' hb => ⟨(h.xo.keep hb).cell, (h.xr.keep hb).cell, (h.xd.keep hb).cell, (h.xl.keep hb).cell⟩)
theorem splice_get {α : Type} {X cs : List α} {off k : Nat} {x : α} (hl : off ≤ X.length) (hk : cs[k]? = some x) : (splice X off cs)[off + k]? = some x := by
  unfold splice
  have hlt := (List.getElem?_eq_some_iff.1 hk).1
  rw [List.getElem?_append_right (by rw [List.length_take]; omega), List.length_take, show off + k - min off X.length = k by omega, List.getElem?_append_left hlt, hk]
theorem step_copy_row {P : Program} {ops : Array Oper} {o : Oper} {a : Act} {w : World} {K : Act → World → Prop} {Q : Exit → Act → World → Prop} {E : Prop} (hgd : o.guard = none) (d s : Operand) (dT sT : TypeId)
    (ho : o.op = .call { callee := .builtin .copy, args := #[d, s], argTypes := #[dT, sT] }) (elem : TypeId) (hu : P.underlying dT = some (.slice elem)) (hsz : (P.info? elem).map (·.size) = some 1)
    (g off dLen dCap : Nat) (ad : Addr) (sLen sCap : Nat) (hd : a.eval d = .slice (some ⟨g, off, none⟩) dLen dCap) (hs : a.eval s = .slice (some ad) sLen sCap)
    (cur : List Value) (t : TypeId) (hg : w.heap[g]? = some (.cells cur.toArray t (0, 0))) (cs : List Value) (hn : cs.length = Nat.min sLen dLen)
    (hsrc : ∀ j v, cs[j]? = some v → w.cell? (ad.add j) = some v) (hfit : off + cs.length ≤ cur.length) (h1 : ∀ v ∈ cs, v.oneCell' = true)
    (h : K (a.put o.dst (goInt cs.length)) (w.setRow g (cur.take off ++ (cs ++ cur.drop (off + cs.length))).toArray)) :
    if Region.wanted o (yielded ops a.tmps) = true then Oper.wp P o a w K Q else E := by
  have hw : Region.wanted o (yielded ops a.tmps) = true := by simp [Region.wanted, hgd]
  rw [if_pos hw]
  have hrun := run_copy_row (P := P) w dT sT o.type elem g off dLen dCap ad sLen sCap cur.toArray t cs hu hsz hg hn hsrc (by simpa using hfit) h1
  unfold Oper.wp
  simp [execOp, ho, resolve, invoke, builtin, hd, hs, hrun, Result.andThen]
  exact h
end Go.Proofs.YteeddednonmglaaDoor
