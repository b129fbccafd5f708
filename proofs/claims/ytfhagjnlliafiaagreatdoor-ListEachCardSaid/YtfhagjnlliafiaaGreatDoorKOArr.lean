/-
  What the reference's Sort returns.
  Conditions: each fact's own.
-/
import Derived.Test.YtfhagjnlliafiaaGreatDoorKOPr3
import Derived.Test.YtfhagjnlliafiaaGreatDoorKOPr5
import Derived.Test.YtfhagjnlliafiaaGreatDoorKOArrM
import Derived.Laws.CopyOwn
set_option linter.unusedVariables false
set_option linter.unusedSimpArgs false
set_option maxHeartbeats 8000000
set_option maxRecDepth 100000
open List renaming setIfInBounds_toArray → lt, set_cons_zero → l0, set_cons_succ → ls
open Go.Act renaming put → u
namespace Go.Proofs.YtfhagjnlliafiaaGreatDoor.O
open Go.Proofs.YtfhagjnlliafiaaGreatDoor.B
open Go.RowKit
theorem infoInt : (Tryz.prog.info? 3).map (fun i => (i.zero, i.size, i.bytes)) = some (some (.int .i64 0), 1, 8) := by kernel_rfl
def ints (V : List Int) : List Value := V.map (Value.int .i64)
def OutRel (n : Nat) (A : Nat → Nat → Bool) (w : World) (x9 : Value) (v10 : Value) (wr : World) : Prop :=
  ∃ (i : Nat) (V : List Int), v10 = .int .i64 (i : Int) ∧ i ≤ n ∧ V.length = n ∧ Hid (∀ j, j < i → V[rank n A j]? = some (j : Int)) ∧ Hid (wr.ownsRow w.heap.size 3 1 x9 n (ints V)) ∧ Hid (Below w.heap.size w wr)
def CntRel (n : Nat) (A : Nat → Nat → Bool) (i : Nat) (w0 : World) (v11 v12 : Value) (wr : World) : Prop :=
  ∃ k : Nat, v12 = .int .i64 (k : Int) ∧ k ≤ n ∧ v11 = .int .i64 (((List.range k).countP fun j => A j i : Nat) : Int) ∧ Hid (Below w0.heap.size w0 wr)
theorem cnt_step (A : Nat → Nat → Bool) (i k : Nat) : (List.range (k + 1)).countP (fun j => A j i) = (List.range k).countP (fun j => A j i) + (if A k i = true then 1 else 0) := by
  rw [List.range_succ, List.countP_append, List.countP_singleton]
theorem cnt_le (A : Nat → Nat → Bool) (i k : Nat) : (List.range k).countP (fun j => A j i) ≤ k := by
  have := List.countP_le_length (p := fun j => A j i) (l := List.range k)
  rwa [List.length_range] at this
theorem rank_at {n : Nat} {A : Nat → Nat → Bool} (hA : Strict n A) {p : List Nat} (h : SortP n A p) {i : Nat} (hi : i < n) : rank n A i < n ∧ p[rank n A i]? = some i := by
  have hm : i ∈ p := h.1.mem_iff.2 (List.mem_range.2 hi)
  obtain ⟨r, hr⟩ := List.mem_iff_getElem?.1 hm
  have e := h.rank hA hr
  rw [e]
  exact ⟨by have := (List.getElem?_eq_some_iff.1 hr).1; rw [h.length] at this; exact this, hr⟩
theorem rank_inj {n : Nat} {A : Nat → Nat → Bool} (hA : Strict n A) {p : List Nat} (h : SortP n A p) {i j : Nat} (hi : i < n) (hj : j < n) (e : rank n A i = rank n A j) : i = j := by
  have h1 := (rank_at hA h hi).2
  have h2 := (rank_at hA h hj).2
  rw [e, h2] at h1
  exact (Option.some.inj h1).symm
theorem out_end {n : Nat} {A : Nat → Nat → Bool} (hA : Strict n A) {p : List Nat} (h : SortP n A p) {V : List Int} (hV : V.length = n) (hr : ∀ j, j < n → V[rank n A j]? = some (j : Int)) : V = p.map fun i : Nat => (i : Int) := by
  apply List.ext_getElem?
  intro r
  rw [List.getElem?_map]
  rcases Nat.lt_or_ge r n with q | q
  · obtain ⟨i, hi⟩ : ∃ i, p[r]? = some i := ⟨_, List.getElem?_eq_getElem (by rw [h.length]; exact q)⟩
    have hin : i < n := h.lt (List.mem_of_getElem? hi)
    have e := h.rank hA hi
    have := hr i hin
    rw [e] at this
    rw [this, hi]
    rfl
  · rw [List.getElem?_eq_none (by omega), List.getElem?_eq_none (by rw [h.length]; omega)]
    rfl
theorem rsort_any (o : Int) (rev dirs : Bool) (l : List Ky) (a : Option Addr) (cap : Nat) (p : List Nat) (w : World) (H : IsKeys w a l) (hl : l.length ≤ 1000) (hz : ∀ c ∈ l, c.name.size ≤ 60000) (hp : Sorted (soC o rev dirs) l p) :
    Calls Tryz.prog 23 #[.int .i64 o, .bool rev, .bool dirs, .slice a l.length cap] w fun e w' => ∃ v, e = .returned v ∧ w'.ownsRow w.heap.size 3 1 v l.length (ints (p.map fun i : Nat => (i : Int))) ∧ Below w.heap.size w w' := by
  obtain ⟨i0, hi0, hz0, hz1, hz2⟩ := info_parts infoInt
  have HA := Lib.hid (fun W (hb : Below w.heap.size w W) i k (hi : i < l.length) (hk : k < l.length) => rahead_any o rev dirs l a cap i k W (H.keep hb) (by omega) hz hi hk)
  have hS := ahead_strict (soC_tot o rev dirs) l l.length
  have HS := Lib.hid hS
  have HP := Lib.hid (show SortP l.length (aheadL (soC o rev dirs) l) p from hp)
  have HI := Lib.hid (fun i hi => hS.irr i hi)
  generalize aheadL (soC o rev dirs) l = A at HA HS HP HI
  clear H hz hp hS
  obtain ⟨n, hn⟩ : ∃ n, l.length = n := ⟨_, rfl⟩
  rw [hn] at HA HS HP HI hl ⊢
  clear hn
  go_enter Tryz.func23, Tryz.ntmps23
  go_wp2_with (at_make; go_loud (refine wpList_make_full _ rfl (.tmp 14) (.tmp 14) 33 rfl w.heap.size 3 i0 (.int .i64 0) 1 Tryz.underlying33 hi0 hz0 hz1 .i64 .i64 _ _ n rfl rfl rfl rfl (by rw [hz2]; omega) (by unfold maxLen; omega) (Nat.le_refl _) ?_; intro w1 hown hgrow))
  have hcells : (madeCells (Value.int .i64 0).cells (n * 1)).toList = ints (List.replicate n 0) := by
    have : (Value.int .i64 0).cells = #[.int .i64 0] := rfl
    rw [this, toList_madeCells_one, Nat.mul_one]
    unfold ints
    rw [List.map_replicate]
  rw [hcells] at hown
  have HO1 := Lib.hid hown
  have HB1 := Lib.hid ((Below.refl w.heap.size w).grown hgrow (Nat.le_refl _) (fun j hj => by cases hj))
  clear hown hgrow hcells
  go_loopw [10] (OutRel n A w (.slice (some ⟨w.heap.size, 0, none⟩) n n)) (fun v _ => n - (intOf v).toNat)
  case atStart => exact ⟨0, List.replicate n 0, rfl, Nat.zero_le _, List.length_replicate, Lib.hid (fun j hj => by omega), HO1, HB1⟩
  case round =>
    obtain ⟨i, V, rfl, hin, hVl, HV, HO, HB⟩ := hrel
    by_cases hi : i < n
    · have e1 : decide ((i : Int) < (n : Int)) = true := decide_eq_true (by omega)
      go_wp2_with fail
      go_loopw [11, 12] (CntRel n A i wr) (fun _ v _ => n - (intOf v).toNat)
      case atStart => exact ⟨0, rfl, Nat.zero_le _, rfl, Lib.hid (Below.refl _ _)⟩
      case round =>
        obtain ⟨k, rfl, hkn, rfl, HBk⟩ := hrel
        have hcl := cnt_le A i k
        have HCs := Lib.hid (cnt_step A i k)
        obtain ⟨c, hc⟩ : ∃ c, (List.range k).countP (fun j => A j i) = c := ⟨_, rfl⟩
        have HCc := Lib.hid hc
        rw [hc] at hcl HCs ⊢
        clear hc
        by_cases hk : k < n
        · have e2 : decide ((k : Int) < (n : Int)) = true := decide_eq_true (by omega)
          have HBw := Lib.hid (below_two HB.out HBk.out)
          by_cases hki : k = i
          · have HCn := Lib.hid (show (List.range (k + 1)).countP (fun j => A j i) = c from by
              rw [HCs.out, hki, HI.out i hi]
              rfl)
            subst hki
            have d1 : ((k : Int) != (k : Int)) = false := by simp
            go_wp2_with fail
            go_roundw
            case rel => exact ⟨k + 1, by simp, by omega, by rw [HCn.out], HBk⟩
            case measure => simp [intOf]; omega
          · have d1 : ((k : Int) != (i : Int)) = true := bne_iff_ne.2 (by omega)
            have HAk := Lib.hid (HA.out _ HBw.out k i hk hi)
            cases hA : A k i with
            | false =>
              rw [hA] at HAk HCs
              have HCn := Lib.hid (show (List.range (k + 1)).countP (fun j => A j i) = c from by rw [HCs.out]; rfl)
              clear hA
              go_wp2_with (go_at_call 44; refine HAk.out.mono ?_; rintro e w5 ⟨rfl, hb⟩; have HB5 := Lib.hid (below_two HBk.out hb); clear hb)
              go_roundw
              case rel => exact ⟨k + 1, by simp, by omega, by rw [HCn.out], HB5⟩
              case measure => simp [intOf]; omega
            | true =>
              rw [hA] at HAk HCs
              have HCn := Lib.hid (show (List.range (k + 1)).countP (fun j => A j i) = c + 1 from by rw [HCs.out]; rfl)
              clear hA
              go_wp2_with (go_at_call 44; refine HAk.out.mono ?_; rintro e w5 ⟨rfl, hb⟩; have HB5 := Lib.hid (below_two HBk.out hb); clear hb)
              go_roundw
              case rel => exact ⟨k + 1, by simp, by omega, by rw [HCn.out]; simp, HB5⟩
              case measure => simp [intOf]; omega
        · have e2 : decide ((k : Int) < (n : Int)) = false := decide_eq_false (by omega)
          have hkn2 : k = n := by omega
          have HRk := Lib.hid (show rank n A i = c from by rw [← HCc.out, hkn2]; rfl)
          have hcn : c < n := by rw [← HRk.out]; exact (rank_at HS.out HP.out hi).1
          have HO5 := Lib.hid (owns_to HO.out HBk.out)
          obtain ⟨x, hx⟩ : ∃ x, V[c]? = some x := ⟨_, List.getElem?_eq_getElem (by omega)⟩
          have a0 : wr.cell? ⟨w.heap.size, c, none⟩ = some (.int .i64 x) := owns_cell HO5.out (by unfold ints; rw [List.getElem?_map, hx]; rfl)
          have a1 : wr.frozen? ⟨w.heap.size, c, none⟩ = false := owns_frozen HO5.out c
          have HBw := Lib.hid (below_two HB.out HBk.out)
          have HO6 := Lib.hid (show (wr.setCell ⟨w.heap.size, c, none⟩ (.int .i64 (i : Int))).ownsRow w.heap.size 3 1 (.slice (some ⟨w.heap.size, 0, none⟩) n n) n (ints (V.set c (i : Int))) from by
            have := owns_setCell HO5.out (j := c) (by unfold ints; rw [List.length_map, hVl]; exact hcn) (.int .i64 (i : Int))
            unfold ints at this ⊢
            rw [List.map_set]
            exact this)
          have HB6 := Lib.hid (HBw.out.setCell (p := ⟨w.heap.size, c, none⟩) (Nat.le_refl _) (.int .i64 (i : Int)))
          have HV6 := Lib.hid (show ∀ j, j < i + 1 → (V.set c (i : Int))[rank n A j]? = some (j : Int) from fun j hj => by
            by_cases q : j = i
            · subst q
              rw [HRk.out, List.getElem?_set_self (by omega)]
            · have hne : c ≠ rank n A j := fun z => q (rank_inj HS.out HP.out (by omega) hi (by rw [HRk.out, z]))
              rw [List.getElem?_set_ne hne]
              exact HV.out j (by omega))
          clear hx hkn2
          go_wp2_with fail
          go_roundw
          case rel => exact ⟨i + 1, V.set c (i : Int), by simp, by omega, by rw [List.length_set]; exact hVl, HV6, HO6, HB6⟩
          case measure => simp [intOf]; omega
    · have e1 : decide ((i : Int) < (n : Int)) = false := decide_eq_false (by omega)
      have HE := Lib.hid (out_end HS.out HP.out hVl (fun j hj => HV.out j (by omega)))
      rw [HE.out] at HO
      clear HE
      go_wp2_with fail
      go_ret
      exact ⟨_, rfl, HO.out, HB.out⟩
end Go.Proofs.YtfhagjnlliafiaaGreatDoor.O
namespace Go.Proofs.YtfhagjnlliafiaaGreatDoor.O
open Go.Proofs.YtfhagjnlliafiaaGreatDoor.B
open Go.RowKit
structure Cfg where
  w0 : World
  o : Int
  rev : Bool
  dirs : Bool
  l : List Ky
  a : Option Addr
  cap : Nat
  bo : Nat
  br : Nat
  bd : Nat
  bl : Nat
  gp : Nat
  bp : Nat
  bc : Nat
  gs : Nat
  bs : Nat
  ba : Nat
def Box (W : World) (k : Nat) (v : Value) : Prop := ∃ t, W.heap[k]? = some (.cells #[v] t (0, 0))
theorem Box.cell {W : World} {k : Nat} {v : Value} (h : Box W k v) : W.cell? ⟨k, 0, none⟩ = some v := by
  obtain ⟨t, h⟩ := h
  rw [cell_of_row _ _ _ _ _ _ h]
  rfl
theorem Box.at_ {W W' : World} {k : Nat} {v : Value} (h : Box W k v) (e : W'.heap[k]? = W.heap[k]?) : Box W' k v := h.elim fun t h => ⟨t, e.trans h⟩
theorem Box.keep {W W' : World} {k : Nat} {v : Value} (h : Box W k v) (hb : Below W.heap.size W W') : Box W' k v := h.at_ (hb.block _ (h.elim fun _ h => heap_lt h))
def natsV (Z : List Nat) : List Value := Z.map fun i : Nat => .int .i64 (i : Int)
theorem natsV_len (Z : List Nat) : (natsV Z).length = Z.length := by unfold natsV; rw [List.length_map]
theorem natsV_get {Z : List Nat} {k x : Nat} (h : Z[k]? = some x) : (natsV Z)[k]? = some (.int .i64 (x : Int)) := by
  unfold natsV
  rw [List.getElem?_map, h]
  rfl
theorem natsV_ints (Z : List Nat) : natsV Z = ints (Z.map fun i : Nat => (i : Int)) := by
  unfold natsV ints
  rw [List.map_map]
  rfl
def cloV (C : Cfg) : Value := .func (.func 71) #[] #[.pointer (some ⟨C.bo, 0, none⟩), .pointer (some ⟨C.br, 0, none⟩), .pointer (some ⟨C.bd, 0, none⟩), .pointer (some ⟨C.bl, 0, none⟩)]
def arrV (C : Cfg) : Value := .func (.func 73) #[] #[.pointer (some ⟨C.ba, 0, none⟩), .pointer (some ⟨C.bs, 0, none⟩), .pointer (some ⟨C.bp, 0, none⟩), .pointer (some ⟨C.bc, 0, none⟩)]
structure CfgOK (C : Cfg) : Prop where
  ne : C.gp ≠ C.gs
  np : C.bo ≠ C.gp ∧ C.br ≠ C.gp ∧ C.bd ≠ C.gp ∧ C.bl ≠ C.gp ∧ C.bp ≠ C.gp ∧ C.bc ≠ C.gp ∧ C.bs ≠ C.gp ∧ C.ba ≠ C.gp
  ns : C.bo ≠ C.gs ∧ C.br ≠ C.gs ∧ C.bd ≠ C.gs ∧ C.bl ≠ C.gs ∧ C.bp ≠ C.gs ∧ C.bc ≠ C.gs ∧ C.bs ≠ C.gs ∧ C.ba ≠ C.gs
  hp : C.w0.heap.size ≤ C.gp
  hs : C.w0.heap.size ≤ C.gs
  keys : IsKeys C.w0 C.a C.l
  few : C.l.length ≤ 1000
  small : ∀ c ∈ C.l, c.name.size ≤ 60000
structure SI (C : Cfg) (Z X : List Nat) (W : World) : Prop where
  low : Below C.w0.heap.size C.w0 W
  xo : Box W C.bo (.int .i64 C.o)
  xr : Box W C.br (.bool C.rev)
  xd : Box W C.bd (.bool C.dirs)
  xl : Box W C.bl (.slice C.a C.l.length C.cap)
  xp : Box W C.bp (.slice (some ⟨C.gp, 0, none⟩) C.l.length C.l.length)
  xc : Box W C.bc (cloV C)
  xs : Box W C.bs (.slice (some ⟨C.gs, 0, none⟩) C.l.length C.l.length)
  xa : Box W C.ba (arrV C)
  pl : W.heap[C.gp]? = some (.cells (natsV Z).toArray 3 (0, 0))
  sp : W.heap[C.gs]? = some (.cells (natsV X).toArray 3 (0, 0))
  lz : Z.length = C.l.length
  lx : X.length = C.l.length
theorem SI.keep {C : Cfg} {Z X : List Nat} {W W' : World} (h : SI C Z X W) (hb : Below W.heap.size W W') : SI C Z X W' :=
  ⟨below_two h.low hb, h.xo.keep hb, h.xr.keep hb, h.xd.keep hb, h.xl.keep hb, h.xp.keep hb, h.xc.keep hb, h.xs.keep hb, h.xa.keep hb, (hb.block _ (heap_lt h.pl)).trans h.pl, (hb.block _ (heap_lt h.sp)).trans h.sp, h.lz, h.lx⟩
theorem SI.place {C : Cfg} {Z X : List Nat} {W : World} (h : SI C Z X W) {j x : Nat} (hj : Z[j]? = some x) : W.cell? ⟨C.gp, j, none⟩ = some (.int .i64 (x : Int)) := by
  rw [cell_of_row _ _ _ _ _ _ h.pl, List.getElem?_toArray]
  exact natsV_get hj
theorem SI.spare {C : Cfg} {Z X : List Nat} {W : World} (h : SI C Z X W) {j x : Nat} (hj : X[j]? = some x) : W.cell? ⟨C.gs, j, none⟩ = some (.int .i64 (x : Int)) := by
  rw [cell_of_row _ _ _ _ _ _ h.sp, List.getElem?_toArray]
  exact natsV_get hj
theorem SI.setP {C : Cfg} {Z X : List Nat} {W : World} (k : CfgOK C) (h : SI C Z X W) (j v : Nat) : SI C (Z.set j v) X (W.setCell ⟨C.gp, j, none⟩ (.int .i64 (v : Int))) := by
  obtain ⟨n1, n2, n3, n4, n5, n6, n7, n8⟩ := k.np
  have f : ∀ b, b ≠ C.gp → (W.setCell ⟨C.gp, j, none⟩ (.int .i64 (v : Int))).heap[b]? = W.heap[b]? := fun b hb => heap_setCell_other _ _ _ _ hb
  refine ⟨h.low.setCell (p := ⟨C.gp, j, none⟩) k.hp _, h.xo.at_ (f _ n1), h.xr.at_ (f _ n2), h.xd.at_ (f _ n3), h.xl.at_ (f _ n4), h.xp.at_ (f _ n5), h.xc.at_ (f _ n6), h.xs.at_ (f _ n7), h.xa.at_ (f _ n8), ?_, (f _ (Ne.symm k.ne)).trans h.sp, by rw [List.length_set]; exact h.lz, h.lx⟩
  rw [heap_setCell_same _ _ _ _ _ _ h.pl]
  congr 2
  unfold natsV
  rw [List.setIfInBounds_toArray, List.map_set]
theorem SI.setS {C : Cfg} {Z X : List Nat} {W : World} (k : CfgOK C) (h : SI C Z X W) (off : Nat) (cs : List Nat) (hf : off + cs.length ≤ C.l.length) : SI C Z (splice X off cs) (W.setRow C.gs ((natsV X).take off ++ (natsV cs ++ (natsV X).drop (off + (natsV cs).length))).toArray) := by
  obtain ⟨n1, n2, n3, n4, n5, n6, n7, n8⟩ := k.ns
  have f : ∀ b, b ≠ C.gs → (W.setRow C.gs ((natsV X).take off ++ (natsV cs ++ (natsV X).drop (off + (natsV cs).length))).toArray).heap[b]? = W.heap[b]? := fun b hb => setRow_other _ _ _ _ hb
  refine ⟨below_setRow h.low k.hs _, h.xo.at_ (f _ n1), h.xr.at_ (f _ n2), h.xd.at_ (f _ n3), h.xl.at_ (f _ n4), h.xp.at_ (f _ n5), h.xc.at_ (f _ n6), h.xs.at_ (f _ n7), h.xa.at_ (f _ n8), (f _ k.ne).trans h.pl, ?_, h.lz, by rw [length_splice _ _ _ (by rw [h.lx]; exact hf)]; exact h.lx⟩
  rw [setRow_heap _ _ _ _ _ _ h.sp]
  congr 2
  unfold splice natsV
  rw [List.map_append, List.map_append, List.map_take, List.map_drop, List.length_map]
theorem SI.clo {C : Cfg} {Z X : List Nat} {W : World} (k : CfgOK C) (h : SI C Z X W) {y x : Nat} (hy : y < C.l.length) (hx : x < C.l.length) :
    Calls Tryz.prog 71 #[.int .i64 (y : Int), .int .i64 (x : Int), .pointer (some ⟨C.bo, 0, none⟩), .pointer (some ⟨C.br, 0, none⟩), .pointer (some ⟨C.bd, 0, none⟩), .pointer (some ⟨C.bl, 0, none⟩)] W fun e w' => e = .returned (.bool (decide (soC C.o C.rev C.dirs (C.l.getD y noKy) (C.l.getD x noKy) < 0))) ∧ Below W.heap.size W w' := by
  have f := k.few
  exact pclo_any C.o C.rev C.dirs C.l C.a C.cap y x C.bo C.br C.bd C.bl W (k.keys.keep h.low) (by omega) k.small hy hx (fun W' hb => ⟨(h.xo.keep hb).cell, (h.xr.keep hb).cell, (h.xd.keep hb).cell, (h.xl.keep hb).cell⟩)
theorem splice_get {α : Type} {X cs : List α} {off k : Nat} {x : α} (hl : off ≤ X.length) (hk : cs[k]? = some x) : (splice X off cs)[off + k]? = some x := by
  unfold splice
  have hlt := (List.getElem?_eq_some_iff.1 hk).1
  rw [List.getElem?_append_right (by rw [List.length_take]; omega), List.length_take, show off + k - min off X.length = k by omega, List.getElem?_append_left hlt, hk]
theorem step_copy_row {P : Program} {ops : Array Oper} {o : Oper} {a : Act} {w : World} {K : Act → World → Prop} {Q : Exit → Act → World → Prop} {E : Prop} (hgd : o.guard = none) (d s : Operand) (dT sT : TypeId)
    (ho : o.op = .call { callee := .builtin .copy, args := #[d, s], argTypes := #[dT, sT] }) (elem : TypeId) (hu : P.underlying dT = some (.slice elem)) (hsz : (P.info? elem).map (·.size) = some 1)
    (g off dLen dCap : Nat) (ad : Addr) (sLen sCap : Nat) (hd : a.eval d = .slice (some ⟨g, off, none⟩) dLen dCap) (hs : a.eval s = .slice (some ad) sLen sCap)
    (cur : List Value) (t : TypeId) (hg : w.heap[g]? = some (.cells cur.toArray t (0, 0))) (cs : List Value) (hn : cs.length = Nat.min sLen dLen)
    (hsrc : ∀ j v, cs[j]? = some v → w.cell? (ad.add j) = some v) (hfit : off + cs.length ≤ cur.length) (h1 : ∀ v ∈ cs, v.oneCell' = true)
    (h : K (a.put o.dst (goInt cs.length)) (w.setRow g (cur.take off ++ (cs ++ cur.drop (off + cs.length))).toArray)) :
    if Region.wanted o (yielded ops a.tmps) = true then Oper.wp P o a w K Q else E := by
  have hw : Region.wanted o (yielded ops a.tmps) = true := by simp [Region.wanted, hgd]
  rw [if_pos hw]
  have hrun := run_copy_row (P := P) w dT sT o.type elem g off dLen dCap ad sLen sCap cur.toArray t cs hu hsz hg hn hsrc (by simpa using hfit) h1
  unfold Oper.wp
  simp [execOp, ho, resolve, invoke, builtin, hd, hs, hrun, Result.andThen]
  exact h
end Go.Proofs.YtfhagjnlliafiaaGreatDoor.O
namespace Go.Proofs.YtfhagjnlliafiaaGreatDoor.O
open Go.Proofs.YtfhagjnlliafiaaGreatDoor.B
open Go.RowKit
theorem sizeInt : (Tryz.prog.info? 3).map (·.size) = some 1 := by kernel_rfl
theorem one_cells (Z : List Nat) : ∀ v ∈ natsV Z, v.oneCell' = true := fun v hv => by
  unfold natsV at hv
  obtain ⟨i, _, rfl⟩ := List.mem_map.1 hv
  rfl
theorem copy_src {C : Cfg} {Z r T X : List Nat} {f : Nat} {W : World} (h : SI C (Z.take f ++ (r ++ T)) X W) (hf : f ≤ Z.length) {j : Nat} {v : Value} (hv : (natsV r)[j]? = some v) : W.cell? ((⟨C.gp, f, none⟩ : Addr).add j) = some v := by
  have hadd : (⟨C.gp, f, none⟩ : Addr).add j = ⟨C.gp, f + j, none⟩ := by unfold Addr.add; split <;> simp_all
  rw [hadd]
  unfold natsV at hv
  rw [List.getElem?_map] at hv
  cases e : r[j]? with
  | none => rw [e] at hv; cases hv
  | some x =>
    rw [e] at hv
    obtain rfl := Option.some.inj hv
    have hlt := (List.getElem?_eq_some_iff.1 e).1
    exact h.place (by rw [List.getElem?_append_right (by rw [List.length_take]; omega), List.length_take, show f + j - min f Z.length = j by omega, List.getElem?_append_left hlt, e])
def ArrRel (C : Cfg) (F : Nat → Nat → Bool) (r1 r2 T FZ X3 : List Nat) (f h : Nat) (v9 v10 v11 : Value) (wr : World) : Prop :=
  ∃ (p q : Nat) (Zc : List Nat) (i j a : Nat), Hid (i = f + p ∧ j = h + q ∧ a = f + p + q) ∧ v9 = .int .i64 (i : Int) ∧ v10 = .int .i64 (j : Int) ∧ v11 = .int .i64 (a : Int) ∧ Hid (MI F r1 r2 T FZ f h C.l.length p q Zc) ∧ Hid (SI C Zc X3 wr)
theorem arr_few (C : Cfg) (ok : CfgOK C) (f t : Nat) (Z X : List Nat) (W : World) (h2 : t - f < 2) (hft : f ≤ t) (htn : t ≤ C.l.length) (hSI : SI C Z X W) (hk : ∀ k, f ≤ k → k < t → Z[k]? = some k) :
    Calls Tryz.prog 73 #[.int .i64 (f : Int), .int .i64 (t : Int), .pointer (some ⟨C.ba, 0, none⟩), .pointer (some ⟨C.bs, 0, none⟩), .pointer (some ⟨C.bp, 0, none⟩), .pointer (some ⟨C.bc, 0, none⟩)] W fun e W' =>
      ∃ v r X', e = .returned v ∧ SortOf (aheadL (soC C.o C.rev C.dirs) C.l) (List.range' f (t - f)) r ∧ SI C (Z.take f ++ (r ++ Z.drop t)) X' W' := by
  have hfew := ok.few
  have lz := hSI.lz
  have d2 : decide ((t : Int) - (f : Int) < 2) = true := decide_eq_true (by omega)
  have HE := Lib.hid (arr_small hft (by omega) hk)
  have HS := Lib.hid hSI
  have HO := Lib.hid (SortOf.one (A := aheadL (soC C.o C.rev C.dirs) C.l) (xs := List.range' f (t - f)) (by rw [List.length_range']; omega))
  clear hSI hk
  go_enter Tryz.func73, Tryz.ntmps73
  go_wp2_with fail
  (try simp only [Exit.inBlock, Exit.then]); refine bodyPost_ret (results_none rfl _ _ _) rfl ?_
  exact ⟨_, _, X, rfl, HO.out, by rw [HE.out]; exact HS.out⟩
theorem arr_any (C : Cfg) (ok : CfgOK C) : ∀ (d f t : Nat) (Z X : List Nat) (W : World), t - f ≤ d → f ≤ t → t ≤ C.l.length → SI C Z X W → (∀ k, f ≤ k → k < t → Z[k]? = some k) →
    Calls Tryz.prog 73 #[.int .i64 (f : Int), .int .i64 (t : Int), .pointer (some ⟨C.ba, 0, none⟩), .pointer (some ⟨C.bs, 0, none⟩), .pointer (some ⟨C.bp, 0, none⟩), .pointer (some ⟨C.bc, 0, none⟩)] W fun e W' =>
      ∃ v r X', e = .returned v ∧ SortOf (aheadL (soC C.o C.rev C.dirs) C.l) (List.range' f (t - f)) r ∧ SI C (Z.take f ++ (r ++ Z.drop t)) X' W' := by
  intro d
  induction d with
  | zero => exact fun f t Z X W hd hft htn hSI hk => arr_few C ok f t Z X W (by omega) hft htn hSI hk
  | succ d ih =>
    intro f t Z X W hd hft htn hSI hk
    have hfew := ok.few
    have lz := hSI.lz
    have lx := hSI.lx
    by_cases h2 : t - f < 2
    · exact arr_few C ok f t Z X W h2 hft htn hSI hk
    · have d2 : decide ((t : Int) - (f : Int) < 2) = false := decide_eq_false (by omega)
      obtain ⟨h, hh⟩ : ∃ h, f + (t - f) / 2 = h := ⟨_, rfl⟩
      have hfh : f < h := by omega
      have hht : h < t := by omega
      have hdiv : ((t : Int) - (f : Int)).tdiv 2 = (h : Int) - (f : Int) := by rw [Int.tdiv_eq_ediv_of_nonneg (by omega)]; omega
      have hdiv2 : ((t : Int) - (f : Int)) / 2 = (h : Int) - (f : Int) := by omega
      have HS := Lib.hid hSI
      have HI := Lib.hid ih
      have HK := Lib.hid hk
      clear ih hk hSI
      have c0 := HS.out.xa.cell
      unfold arrV at c0
      have hsum : (f : Int) + ((h : Int) - (f : Int)) = (h : Int) := by omega
      go_enter Tryz.func73, Tryz.ntmps73
      go_wp2_with fail
      refine (HI.out f h Z X W (by omega) (by omega) (by omega) HS.out (fun k h1 h3 => HK.out k h1 (by omega))).mono ?_
      rintro e W1 ⟨v1, r1, X1, rfl, ho1, hs1⟩
      have n1 : r1.length = h - f := by have := sort_len ho1; rwa [List.length_range'] at this
      have HO1 := Lib.hid ho1
      have HS1 := Lib.hid hs1
      have HK1 := Lib.hid (arr_right (r := r1) (h := h) (t := t) (by omega) (by omega) (by omega) n1 HK.out)
      have e1 : (Z.take f ++ (r1 ++ Z.drop h)).length = C.l.length := HS1.out.lz
      have HT := Lib.hid (fun r2 => arr_two (Z := Z) (r1 := r1) (r2 := r2) (f := f) (h := h) (t := t) (by omega) (by omega) (by omega) n1)
      clear ho1 hs1 HK c0
      have c0 := HS1.out.xa.cell
      unfold arrV at c0
      go_wp2_with fail
      refine (HI.out h t _ X1 W1 (by omega) (by omega) (by omega) HS1.out HK1.out).mono ?_
      rintro e W2 ⟨v2, r2, X2, rfl, ho2, hs2⟩
      rw [HT.out] at hs2
      have n2 : r2.length = t - h := by have := sort_len ho2; rwa [List.length_range'] at this
      have HO2 := Lib.hid ho2
      have HS2 := Lib.hid hs2
      clear ho2 hs2 HK1 HS1 HS HI HT c0 e1
      go_upto_region 4 with fail
      have HSd := Lib.hid (HS2.out.keep ((Below.refl _ _).drew))
      have lx2 := HS2.out.lx
      have HRd := Lib.hid (show ∀ j v, (natsV r1)[j]? = some v → W2.drew.cell? ((⟨C.gp, f, none⟩ : Addr).add j) = some v from fun j v hv => copy_src HSd.out (by omega) hv)
      have HS3 := Lib.hid (HSd.out.setS ok f r1 (by omega))
      have q1 : h ≤ C.l.length := by omega
      have q2 : f ≤ h := by omega
      have q3 : ¬ (C.l.length = f) := by omega
      refine Till.region (z := 1000) (S := fun w' => w'.cell? ⟨C.bs, 0, none⟩ = some (.slice (some ⟨C.gs, 0, none⟩) C.l.length C.l.length) ∧ w'.cell? ⟨C.bp, 0, none⟩ = some (.slice (some ⟨C.gp, 0, none⟩) C.l.length C.l.length)) (by kernel_rfl) ⟨HSd.out.xs.cell, HSd.out.xp.cell⟩ (fun hHeld => ?_)
      refine Till.tk 0 (oi := ⟨some 30, .load 33 (.tmp 3), 33, "order.go:66", #[], none⟩) (.slice (some ⟨C.gs, 0, none⟩) C.l.length C.l.length) rfl (fun w0 hS0 => ?_) ?_
      · have q := hS0.1; go_simp
      try simp only [u, lt, l0, ls]
      refine Till.tk 1 (oi := ⟨some 31, .move (.tmp 0), 3, "order.go:66", #[], none⟩) (.int .i64 (f : Int)) rfl (fun w0 hS0 => ?_) ?_
      · go_simp
      try simp only [u, lt, l0, ls]
      refine Till.tk 2 (oi := ⟨some 32, .move (.tmp 8), 3, "order.go:66", #[], none⟩) (.int .i64 (h : Int)) rfl (fun w0 hS0 => ?_) ?_
      · go_simp
      try simp only [u, lt, l0, ls]
      refine Till.tk 3 (oi := ⟨some 33, .slice 33 (.tmp 30) (some (.tmp 31)) (some (.tmp 32)) none, 33, "order.go:66", #[⟨0, .data⟩, ⟨1, .data⟩, ⟨2, .data⟩], none⟩) (.slice (some ⟨C.gs, f, none⟩) (h - f) (C.l.length - f)) rfl (fun w0 hS0 => ?_) ?_
      · go_simp
      try simp only [u, lt, l0, ls]
      refine Till.tk 4 (oi := ⟨some 34, .load 33 (.tmp 4), 33, "order.go:66", #[], none⟩) (.slice (some ⟨C.gp, 0, none⟩) C.l.length C.l.length) rfl (fun w0 hS0 => ?_) ?_
      · have q := hS0.2; go_simp
      try simp only [u, lt, l0, ls]
      refine Till.tk 5 (oi := ⟨some 35, .move (.tmp 0), 3, "order.go:66", #[], none⟩) (.int .i64 (f : Int)) rfl (fun w0 hS0 => ?_) ?_
      · go_simp
      try simp only [u, lt, l0, ls]
      refine Till.tk 6 (oi := ⟨some 36, .move (.tmp 8), 3, "order.go:66", #[], none⟩) (.int .i64 (h : Int)) rfl (fun w0 hS0 => ?_) ?_
      · go_simp
      try simp only [u, lt, l0, ls]
      refine Till.tk 7 (oi := ⟨some 37, .slice 33 (.tmp 34) (some (.tmp 35)) (some (.tmp 36)) none, 33, "order.go:66", #[⟨4, .data⟩, ⟨5, .data⟩, ⟨6, .data⟩], none⟩) (.slice (some ⟨C.gp, f, none⟩) (h - f) (C.l.length - f)) rfl (fun w0 hS0 => ?_) ?_
      · go_simp
      try simp only [u, lt, l0, ls]
      refine Till.tn 8 (o := ⟨some 38, .call ⟨.builtin .copy, #[.tmp 33, .tmp 37], #[33, 33]⟩, 3, "order.go:66", #[⟨3, .data⟩, ⟨7, .data⟩], none⟩) rfl fun K hK => ?_
      refine step_copy_row rfl (.tmp 33) (.tmp 37) 33 33 rfl 3 Tryz.underlying33 sizeInt C.gs f (h - f) (C.l.length - f) ⟨C.gp, f, none⟩ (h - f) (C.l.length - f) rfl rfl (natsV X2) 3 HSd.out.sp (natsV r1) (by rw [natsV_len]; show r1.length = min (h - f) (h - f); omega) HRd.out (by rw [natsV_len, natsV_len]; omega) (one_cells r1) ?_
      refine hK.out _ _ (fun _ => ⟨(HS3.out.xs).cell, (HS3.out.xp).cell⟩) ?_
      clear hK K
      try simp only [u, lt, l0, ls]
      refine Till.done (by kernel_rfl) ?_
      have HSp := Lib.hid (fun k x => splice_get (X := X2) (cs := r1) (off := f) (k := k) (x := x) (by omega))
      generalize splice X2 f r1 = X3 at HS3 HSp
      generalize W2.drew.setRow C.gs ((natsV X2).take f ++ (natsV r1 ++ (natsV X2).drop (f + (natsV r1).length))).toArray = W3 at HS3 ⊢
      clear HSd HRd HS2
      have hz2 := HS3.out.lz
      have HM := Lib.hid (MI.start (aheadL (soC C.o C.rev C.dirs) C.l) r1 r2 (Z.take f) (Z.drop t) f h C.l.length (by rw [List.length_take]; omega) (by omega) hz2)
      have HF := Lib.hid (arr_halves (ahead_strict (soC_tot C.o C.rev C.dirs) C.l C.l.length) (by omega) (by omega) htn HO1.out HO2.out)
      have HP := Lib.hid (fun x y (hxy : x < y) => pick_left (soC_tot C.o C.rev C.dirs) C.l hxy)
      have HQ1 := Lib.hid (fun k x hx => sort_mem HO1.out (k := k) (x := x) hx)
      have HQ2 := Lib.hid (fun k x hx => sort_mem HO2.out (k := k) (x := x) hx)
      clear HO1 HO2 hz2
      generalize Z.take f ++ (r1 ++ (r2 ++ Z.drop t)) = Z3 at HS3 HM
      go_wp2_with fail
      go_loopw [9, 10, 11] (ArrRel C (aheadL (soC C.o C.rev C.dirs) C.l) r1 r2 (Z.drop t) (Z.take f ++ (mergeL (aheadL (soC C.o C.rev C.dirs) C.l) r1 r2 ++ Z.drop t)) X3 f h) (fun v9 v10 _ _ => (h + t) - ((intOf v9).toNat + (intOf v10).toNat))
      case atStart => exact ⟨0, 0, Z3, f, h, f, Lib.hid ⟨rfl, rfl, rfl⟩, rfl, rfl, rfl, HM, HS3⟩
      case round =>
        obtain ⟨p, q, Zc, i, j, a, HJ, rfl, rfl, rfl, HMr, HSr⟩ := hrel
        have HL := Lib.hid (And.intro HMr.out.lp HMr.out.lq)
        have bi : i ≤ h := by have := HJ.out; have := HL.out; omega
        have bj : j ≤ t := by have := HJ.out; have := HL.out; omega
        have lzc := HSr.out.lz
        clear HM HS3
        by_cases g1 : i < h
        · have d1 : decide ((i : Int) < (h : Int)) = true := decide_eq_true (by omega)
          obtain ⟨x, hx⟩ : ∃ x, r1[p]? = some x := ⟨_, List.getElem?_eq_getElem (by have := HJ.out; have := HL.out; omega)⟩
          have ba : a < C.l.length := by have := HJ.out; have := HL.out; omega
          have ilt : i < C.l.length := by omega
          obtain ⟨z0, hz0⟩ : ∃ z0, Zc[a]? = some z0 := ⟨_, List.getElem?_eq_getElem (by omega)⟩
          have HZ0 := Lib.hid hz0
          clear hz0
          have HX := Lib.hid hx
          have HXi := Lib.hid (show X3[i]? = some x by rw [HJ.out.1]; exact HSp.out p x hx)
          have bx := HQ1.out p x hx
          clear hx
          by_cases g2 : j < t
          · have d2 : decide ((j : Int) < (t : Int)) = true := decide_eq_true (by omega)
            obtain ⟨y, hy⟩ : ∃ y, r2[q]? = some y := ⟨_, List.getElem?_eq_getElem (by have := HJ.out; have := HL.out; omega)⟩
            have jlt : j < C.l.length := by omega
            have HY := Lib.hid hy
            have HZj := Lib.hid (show Zc[j]? = some y by rw [HJ.out.2.1]; exact HMr.out.read hy)
            have by_ := HQ2.out q y hy
            have HPx := Lib.hid (HP.out x y (by omega))
            have HCl := Lib.hid (fun W (hW : SI C Zc X3 W) => hW.clo ok (y := y) (x := x) (by omega) (by omega))
            clear hy
            generalize decide (soC C.o C.rev C.dirs (C.l.getD y noKy) (C.l.getD x noKy) < 0) = A at HPx HCl
            go_upto_region 9 with fail
            refine Till.region (z := 1000) (S := fun w' => Below wr.heap.size wr w') (by kernel_rfl) ((Below.refl _ _).drew) (fun hHeld => ?_)
            refine Till.tk 0 (oi := ⟨some 47, .move (.tmp 10), 3, "order.go:70", #[], none⟩) (.int .i64 (j : Int)) rfl (fun w0 hS0 => ?_) ?_
            · go_simp
            try simp only [u, lt, l0, ls]
            refine Till.tk 1 (oi := ⟨some 48, .move (.tmp 1), 3, "order.go:70", #[], none⟩) (.int .i64 (t : Int)) rfl (fun w0 hS0 => ?_) ?_
            · go_simp
            try simp only [u, lt, l0, ls]
            refine Till.tk 2 (oi := ⟨some 49, .binOp .lss 3 (.tmp 47) (.tmp 48) 3, 4, "order.go:70", #[⟨0, .data⟩, ⟨1, .data⟩], none⟩) (.bool true) rfl (fun w0 hS0 => ?_) ?_
            · go_simp
            try simp only [u, lt, l0, ls]
            refine Till.tk 3 (oi := ⟨some 50, .move (.tmp 49), 4, "order.go:70", #[⟨2, .data⟩], none⟩) (.bool true) rfl (fun w0 hS0 => ?_) ?_
            · go_simp
            try simp only [u, lt, l0, ls]
            refine Till.tk 4 (oi := ⟨some 51, .load 126 (.tmp 5), 126, "order.go:70", #[⟨3, .guard⟩], some (3, true)⟩) (.func (.func 71) #[] #[.pointer (some ⟨C.bo, 0, none⟩), .pointer (some ⟨C.br, 0, none⟩), .pointer (some ⟨C.bd, 0, none⟩), .pointer (some ⟨C.bl, 0, none⟩)]) rfl (fun w0 hS0 => ?_) ?_
            · have q := (HSr.out.keep hS0).xc.cell; unfold cloV at q; go_simp
            try simp only [u, lt, l0, ls]
            refine Till.tk 5 (oi := ⟨some 52, .load 33 (.tmp 4), 33, "order.go:70", #[⟨3, .guard⟩], some (3, true)⟩) (.slice (some ⟨C.gp, 0, none⟩) C.l.length C.l.length) rfl (fun w0 hS0 => ?_) ?_
            · have q := (HSr.out.keep hS0).xp.cell; go_simp
            try simp only [u, lt, l0, ls]
            refine Till.tk 6 (oi := ⟨some 53, .move (.tmp 10), 3, "order.go:70", #[⟨3, .guard⟩], some (3, true)⟩) (.int .i64 (j : Int)) rfl (fun w0 hS0 => ?_) ?_
            · go_simp
            try simp only [u, lt, l0, ls]
            refine Till.tk 7 (oi := ⟨some 54, .indexAddr 33 (.tmp 52) (.tmp 53), 0, "order.go:70", #[⟨5, .data⟩, ⟨6, .data⟩, ⟨3, .guard⟩], some (3, true)⟩) (.pointer (some ⟨C.gp, j, none⟩)) rfl (fun w0 hS0 => ?_) ?_
            · go_simp
            try simp only [u, lt, l0, ls]
            refine Till.tk 8 (oi := ⟨some 55, .load 3 (.tmp 54), 3, "order.go:70", #[⟨7, .data⟩, ⟨3, .guard⟩], some (3, true)⟩) (.int .i64 (y : Int)) rfl (fun w0 hS0 => ?_) ?_
            · have q := (HSr.out.keep hS0).place HZj.out; go_simp
            try simp only [u, lt, l0, ls]
            refine Till.tk 9 (oi := ⟨some 56, .load 33 (.tmp 3), 33, "order.go:70", #[⟨3, .guard⟩], some (3, true)⟩) (.slice (some ⟨C.gs, 0, none⟩) C.l.length C.l.length) rfl (fun w0 hS0 => ?_) ?_
            · have q := (HSr.out.keep hS0).xs.cell; go_simp
            try simp only [u, lt, l0, ls]
            refine Till.tk 10 (oi := ⟨some 57, .move (.tmp 9), 3, "order.go:70", #[⟨3, .guard⟩], some (3, true)⟩) (.int .i64 (i : Int)) rfl (fun w0 hS0 => ?_) ?_
            · go_simp
            try simp only [u, lt, l0, ls]
            refine Till.tk 11 (oi := ⟨some 58, .indexAddr 33 (.tmp 56) (.tmp 57), 0, "order.go:70", #[⟨9, .data⟩, ⟨10, .data⟩, ⟨3, .guard⟩], some (3, true)⟩) (.pointer (some ⟨C.gs, i, none⟩)) rfl (fun w0 hS0 => ?_) ?_
            · go_simp
            try simp only [u, lt, l0, ls]
            refine Till.tk 12 (oi := ⟨some 59, .load 3 (.tmp 58), 3, "order.go:70", #[⟨11, .data⟩, ⟨3, .guard⟩], some (3, true)⟩) (.int .i64 (x : Int)) rfl (fun w0 hS0 => ?_) ?_
            · have q := (HSr.out.keep hS0).spare HXi.out; go_simp
            try simp only [u, lt, l0, ls]
            refine Till.tn 13 (o := ⟨some 60, .call ⟨.value (.tmp 51), #[.tmp 55, .tmp 59], #[3, 3]⟩, 4, "order.go:70", #[⟨4, .data⟩, ⟨8, .data⟩, ⟨12, .data⟩, ⟨3, .chain⟩, ⟨3, .guard⟩], some (3, true)⟩) rfl fun K hK => ?_
            go_simp
            refine (HCl.out _ (HSr.out.keep hHeld)).mono ?_
            rintro e w3 ⟨rfl, hb3⟩
            have hHeld3 : Below wr.heap.size wr w3 := below_two hHeld hb3
            clear hb3
            go_wp2_with fail
            refine hK.out _ _ (fun _ => hHeld3) ?_
            clear hK K
            try simp only [u, lt, l0, ls]
            refine Till.tk 14 (oi := ⟨some 61, .pick (.tmp 50) (.tmp 60) (.const (.bool false)), 4, "order.go:70", #[⟨3, .data⟩, ⟨13, .data⟩], none⟩) (.bool A) rfl (fun w0 hS0 => ?_) ?_
            · go_simp
            try simp only [u, lt, l0, ls]
            refine Till.done (by kernel_rfl) ?_
            have HSq := Lib.hid (HSr.out.keep hHeld3)
            generalize w3 = wq at HSq ⊢
            clear hHeld hHeld3
            cases A with
            | true =>
              have HSd := Lib.hid (HSq.out.keep ((Below.refl _ _).drew))
              have HSn := Lib.hid (HSd.out.setP ok a y)
              have c1 : wq.drew.cell? ⟨C.gp, a, none⟩ = some (.int .i64 (z0 : Int)) := (HSq.out.keep ((Below.refl _ _).drew)).place HZ0.out
              have c2 : wq.drew.frozen? ⟨C.gp, a, none⟩ = false := frozen_of_row _ _ _ _ _ (HSq.out.keep ((Below.refl _ _).drew)).pl
              go_upto_region 10 with fail
              refine Till.region (z := 1000) (S := fun w' => w'.cell? ⟨C.bp, 0, none⟩ = some (.slice (some ⟨C.gp, 0, none⟩) C.l.length C.l.length) ∧ w'.cell? ⟨C.gp, j, none⟩ = some (.int .i64 (y : Int))) (by kernel_rfl) ⟨HSd.out.xp.cell, HSd.out.place HZj.out⟩ (fun hHeld => ?_)
              refine Till.tk 0 (oi := ⟨some 62, .load 33 (.tmp 4), 33, "order.go:71", #[], none⟩) (.slice (some ⟨C.gp, 0, none⟩) C.l.length C.l.length) rfl (fun w0 hS0 => ?_) ?_
              · have q := hS0.1; go_simp
              try simp only [u, lt, l0, ls]
              refine Till.tk 1 (oi := ⟨some 63, .move (.tmp 11), 3, "order.go:71", #[], none⟩) (.int .i64 (a : Int)) rfl (fun w0 hS0 => ?_) ?_
              · go_simp
              try simp only [u, lt, l0, ls]
              refine Till.tk 2 (oi := ⟨some 64, .load 33 (.tmp 4), 33, "order.go:71", #[], none⟩) (.slice (some ⟨C.gp, 0, none⟩) C.l.length C.l.length) rfl (fun w0 hS0 => ?_) ?_
              · have q := hS0.1; go_simp
              try simp only [u, lt, l0, ls]
              refine Till.tk 3 (oi := ⟨some 65, .move (.tmp 10), 3, "order.go:71", #[], none⟩) (.int .i64 (j : Int)) rfl (fun w0 hS0 => ?_) ?_
              · go_simp
              try simp only [u, lt, l0, ls]
              refine Till.tk 4 (oi := ⟨some 66, .indexAddr 33 (.tmp 64) (.tmp 65), 0, "order.go:71", #[⟨2, .data⟩, ⟨3, .data⟩], none⟩) (.pointer (some ⟨C.gp, j, none⟩)) rfl (fun w0 hS0 => ?_) ?_
              · go_simp
              try simp only [u, lt, l0, ls]
              refine Till.tk 5 (oi := ⟨some 67, .load 3 (.tmp 66), 3, "order.go:71", #[⟨4, .data⟩], none⟩) (.int .i64 (y : Int)) rfl (fun w0 hS0 => ?_) ?_
              · have q := hS0.2; go_simp
              try simp only [u, lt, l0, ls]
              refine Till.tk 6 (oi := ⟨some 68, .indexAddr 33 (.tmp 62) (.tmp 63), 0, "order.go:71", #[⟨0, .data⟩, ⟨1, .data⟩, ⟨0, .phase⟩, ⟨1, .phase⟩, ⟨2, .phase⟩, ⟨3, .phase⟩, ⟨4, .phase⟩, ⟨5, .phase⟩], none⟩) (.pointer (some ⟨C.gp, a, none⟩)) rfl (fun w0 hS0 => ?_) ?_
              · go_simp
              try simp only [u, lt, l0, ls]
              refine Till.tn 7 (o := ⟨none, .store 3 (.tmp 68) (.tmp 67), 0, "order.go:71", #[⟨6, .data⟩, ⟨5, .data⟩, ⟨0, .phase⟩, ⟨1, .phase⟩, ⟨2, .phase⟩, ⟨3, .phase⟩, ⟨4, .phase⟩, ⟨5, .phase⟩], none⟩) rfl fun K hK => ?_
              go_simp
              refine hK.out _ _ (fun _ => ⟨HSn.out.xp.cell, HSn.out.place ((List.getElem?_set_ne (by have := HJ.out; have := HL.out; omega)).trans HZj.out)⟩) ?_
              clear hK K
              try simp only [u, lt, l0, ls]
              refine Till.done (by kernel_rfl) ?_
              go_wp2_with fail
              refine ⟨?_, ?measure⟩
              (repeat apply Exists.intro)
              refine ⟨?rel, rfl⟩
              case rel => exact ⟨p, q + 1, Zc.set a y, i, j + 1, a + 1, Lib.hid (by have := HJ.out; omega), by simp, by simp, by simp, Lib.hid (by rw [HJ.out.2.2]; exact HMr.out.right (by omega) (by omega) HX.out HY.out HPx.out), HSn⟩
              case measure => simp [intOf]; omega
            | false =>
              have HSd := Lib.hid (HSq.out.keep ((Below.refl _ _).drew))
              have HSn := Lib.hid (HSd.out.setP ok a x)
              have c1 : wq.drew.cell? ⟨C.gp, a, none⟩ = some (.int .i64 (z0 : Int)) := (HSq.out.keep ((Below.refl _ _).drew)).place HZ0.out
              have c2 : wq.drew.frozen? ⟨C.gp, a, none⟩ = false := frozen_of_row _ _ _ _ _ (HSq.out.keep ((Below.refl _ _).drew)).pl
              go_upto_region 12 with fail
              refine Till.region (z := 1000) (S := fun w' => w'.cell? ⟨C.bp, 0, none⟩ = some (.slice (some ⟨C.gp, 0, none⟩) C.l.length C.l.length) ∧ w'.cell? ⟨C.bs, 0, none⟩ = some (.slice (some ⟨C.gs, 0, none⟩) C.l.length C.l.length) ∧ w'.cell? ⟨C.gs, i, none⟩ = some (.int .i64 (x : Int))) (by kernel_rfl) ⟨HSd.out.xp.cell, HSd.out.xs.cell, HSd.out.spare HXi.out⟩ (fun hHeld => ?_)
              refine Till.tk 0 (oi := ⟨some 71, .load 33 (.tmp 4), 33, "order.go:74", #[], none⟩) (.slice (some ⟨C.gp, 0, none⟩) C.l.length C.l.length) rfl (fun w0 hS0 => ?_) ?_
              · have q := hS0.1; go_simp
              try simp only [u, lt, l0, ls]
              refine Till.tk 1 (oi := ⟨some 72, .move (.tmp 11), 3, "order.go:74", #[], none⟩) (.int .i64 (a : Int)) rfl (fun w0 hS0 => ?_) ?_
              · go_simp
              try simp only [u, lt, l0, ls]
              refine Till.tk 2 (oi := ⟨some 73, .load 33 (.tmp 3), 33, "order.go:74", #[], none⟩) (.slice (some ⟨C.gs, 0, none⟩) C.l.length C.l.length) rfl (fun w0 hS0 => ?_) ?_
              · have q := hS0.2.1; go_simp
              try simp only [u, lt, l0, ls]
              refine Till.tk 3 (oi := ⟨some 74, .move (.tmp 9), 3, "order.go:74", #[], none⟩) (.int .i64 (i : Int)) rfl (fun w0 hS0 => ?_) ?_
              · go_simp
              try simp only [u, lt, l0, ls]
              refine Till.tk 4 (oi := ⟨some 75, .indexAddr 33 (.tmp 73) (.tmp 74), 0, "order.go:74", #[⟨2, .data⟩, ⟨3, .data⟩], none⟩) (.pointer (some ⟨C.gs, i, none⟩)) rfl (fun w0 hS0 => ?_) ?_
              · go_simp
              try simp only [u, lt, l0, ls]
              refine Till.tk 5 (oi := ⟨some 76, .load 3 (.tmp 75), 3, "order.go:74", #[⟨4, .data⟩], none⟩) (.int .i64 (x : Int)) rfl (fun w0 hS0 => ?_) ?_
              · have q := hS0.2.2; go_simp
              try simp only [u, lt, l0, ls]
              refine Till.tk 6 (oi := ⟨some 77, .indexAddr 33 (.tmp 71) (.tmp 72), 0, "order.go:74", #[⟨0, .data⟩, ⟨1, .data⟩, ⟨0, .phase⟩, ⟨1, .phase⟩, ⟨2, .phase⟩, ⟨3, .phase⟩, ⟨4, .phase⟩, ⟨5, .phase⟩], none⟩) (.pointer (some ⟨C.gp, a, none⟩)) rfl (fun w0 hS0 => ?_) ?_
              · go_simp
              try simp only [u, lt, l0, ls]
              refine Till.tn 7 (o := ⟨none, .store 3 (.tmp 77) (.tmp 76), 0, "order.go:74", #[⟨6, .data⟩, ⟨5, .data⟩, ⟨0, .phase⟩, ⟨1, .phase⟩, ⟨2, .phase⟩, ⟨3, .phase⟩, ⟨4, .phase⟩, ⟨5, .phase⟩], none⟩) rfl fun K hK => ?_
              go_simp
              refine hK.out _ _ (fun _ => ⟨HSn.out.xp.cell, HSn.out.xs.cell, HSn.out.spare HXi.out⟩) ?_
              clear hK K
              try simp only [u, lt, l0, ls]
              refine Till.done (by kernel_rfl) ?_
              go_wp2_with fail
              refine ⟨?_, ?measure⟩
              (repeat apply Exists.intro)
              refine ⟨?rel, rfl⟩
              case rel => exact ⟨p + 1, q, Zc.set a x, i + 1, j, a + 1, Lib.hid (by have := HJ.out; omega), by simp, by simp, by simp, Lib.hid (by rw [HJ.out.2.2]; exact HMr.out.left (by omega) (by omega) HX.out (.inr ⟨y, HY.out, HPx.out⟩)), HSn⟩
              case measure => simp [intOf]; omega
          · have d2 : decide ((j : Int) < (t : Int)) = false := decide_eq_false (by omega)
            go_upto_region 9 with fail
            refine Till.region (z := 1000) (S := fun w' => Below wr.heap.size wr w') (by kernel_rfl) ((Below.refl _ _).drew) (fun hHeld => ?_)
            refine Till.tk 0 (oi := ⟨some 47, .move (.tmp 10), 3, "order.go:70", #[], none⟩) (.int .i64 (j : Int)) rfl (fun w0 hS0 => ?_) ?_
            · go_simp
            try simp only [u, lt, l0, ls]
            refine Till.tk 1 (oi := ⟨some 48, .move (.tmp 1), 3, "order.go:70", #[], none⟩) (.int .i64 (t : Int)) rfl (fun w0 hS0 => ?_) ?_
            · go_simp
            try simp only [u, lt, l0, ls]
            refine Till.tk 2 (oi := ⟨some 49, .binOp .lss 3 (.tmp 47) (.tmp 48) 3, 4, "order.go:70", #[⟨0, .data⟩, ⟨1, .data⟩], none⟩) (.bool false) rfl (fun w0 hS0 => ?_) ?_
            · go_simp
            try simp only [u, lt, l0, ls]
            refine Till.tk 3 (oi := ⟨some 50, .move (.tmp 49), 4, "order.go:70", #[⟨2, .data⟩], none⟩) (.bool false) rfl (fun w0 hS0 => ?_) ?_
            · go_simp
            try simp only [u, lt, l0, ls]
            refine Till.tu 4 (oi := ⟨some 51, .load 126 (.tmp 5), 126, "order.go:70", #[⟨3, .guard⟩], some (3, true)⟩) rfl ?_
            try simp only [u, lt, l0, ls]
            refine Till.tu 5 (oi := ⟨some 52, .load 33 (.tmp 4), 33, "order.go:70", #[⟨3, .guard⟩], some (3, true)⟩) rfl ?_
            try simp only [u, lt, l0, ls]
            refine Till.tu 6 (oi := ⟨some 53, .move (.tmp 10), 3, "order.go:70", #[⟨3, .guard⟩], some (3, true)⟩) rfl ?_
            try simp only [u, lt, l0, ls]
            refine Till.tu 7 (oi := ⟨some 54, .indexAddr 33 (.tmp 52) (.tmp 53), 0, "order.go:70", #[⟨5, .data⟩, ⟨6, .data⟩, ⟨3, .guard⟩], some (3, true)⟩) rfl ?_
            try simp only [u, lt, l0, ls]
            refine Till.tu 8 (oi := ⟨some 55, .load 3 (.tmp 54), 3, "order.go:70", #[⟨7, .data⟩, ⟨3, .guard⟩], some (3, true)⟩) rfl ?_
            try simp only [u, lt, l0, ls]
            refine Till.tu 9 (oi := ⟨some 56, .load 33 (.tmp 3), 33, "order.go:70", #[⟨3, .guard⟩], some (3, true)⟩) rfl ?_
            try simp only [u, lt, l0, ls]
            refine Till.tu 10 (oi := ⟨some 57, .move (.tmp 9), 3, "order.go:70", #[⟨3, .guard⟩], some (3, true)⟩) rfl ?_
            try simp only [u, lt, l0, ls]
            refine Till.tu 11 (oi := ⟨some 58, .indexAddr 33 (.tmp 56) (.tmp 57), 0, "order.go:70", #[⟨9, .data⟩, ⟨10, .data⟩, ⟨3, .guard⟩], some (3, true)⟩) rfl ?_
            try simp only [u, lt, l0, ls]
            refine Till.tu 12 (oi := ⟨some 59, .load 3 (.tmp 58), 3, "order.go:70", #[⟨11, .data⟩, ⟨3, .guard⟩], some (3, true)⟩) rfl ?_
            try simp only [u, lt, l0, ls]
            refine Till.tu 13 (oi := ⟨some 60, .call ⟨.value (.tmp 51), #[.tmp 55, .tmp 59], #[3, 3]⟩, 4, "order.go:70", #[⟨4, .data⟩, ⟨8, .data⟩, ⟨12, .data⟩, ⟨3, .chain⟩, ⟨3, .guard⟩], some (3, true)⟩) rfl ?_
            try simp only [u, lt, l0, ls]
            refine Till.tk 14 (oi := ⟨some 61, .pick (.tmp 50) (.tmp 60) (.const (.bool false)), 4, "order.go:70", #[⟨3, .data⟩, ⟨13, .data⟩], none⟩) (.bool false) rfl (fun w0 hS0 => ?_) ?_
            · go_simp
            try simp only [u, lt, l0, ls]
            refine Till.done (by kernel_rfl) ?_
            have HSq := Lib.hid (HSr.out.keep hHeld)
            generalize wr.drew = wq at HSq ⊢
            clear hHeld
            have HSd := Lib.hid (HSq.out.keep ((Below.refl _ _).drew))
            have HSn := Lib.hid (HSd.out.setP ok a x)
            have c1 : wq.drew.cell? ⟨C.gp, a, none⟩ = some (.int .i64 (z0 : Int)) := (HSq.out.keep ((Below.refl _ _).drew)).place HZ0.out
            have c2 : wq.drew.frozen? ⟨C.gp, a, none⟩ = false := frozen_of_row _ _ _ _ _ (HSq.out.keep ((Below.refl _ _).drew)).pl
            go_upto_region 12 with fail
            refine Till.region (z := 1000) (S := fun w' => w'.cell? ⟨C.bp, 0, none⟩ = some (.slice (some ⟨C.gp, 0, none⟩) C.l.length C.l.length) ∧ w'.cell? ⟨C.bs, 0, none⟩ = some (.slice (some ⟨C.gs, 0, none⟩) C.l.length C.l.length) ∧ w'.cell? ⟨C.gs, i, none⟩ = some (.int .i64 (x : Int))) (by kernel_rfl) ⟨HSd.out.xp.cell, HSd.out.xs.cell, HSd.out.spare HXi.out⟩ (fun hHeld => ?_)
            refine Till.tk 0 (oi := ⟨some 71, .load 33 (.tmp 4), 33, "order.go:74", #[], none⟩) (.slice (some ⟨C.gp, 0, none⟩) C.l.length C.l.length) rfl (fun w0 hS0 => ?_) ?_
            · have q := hS0.1; go_simp
            try simp only [u, lt, l0, ls]
            refine Till.tk 1 (oi := ⟨some 72, .move (.tmp 11), 3, "order.go:74", #[], none⟩) (.int .i64 (a : Int)) rfl (fun w0 hS0 => ?_) ?_
            · go_simp
            try simp only [u, lt, l0, ls]
            refine Till.tk 2 (oi := ⟨some 73, .load 33 (.tmp 3), 33, "order.go:74", #[], none⟩) (.slice (some ⟨C.gs, 0, none⟩) C.l.length C.l.length) rfl (fun w0 hS0 => ?_) ?_
            · have q := hS0.2.1; go_simp
            try simp only [u, lt, l0, ls]
            refine Till.tk 3 (oi := ⟨some 74, .move (.tmp 9), 3, "order.go:74", #[], none⟩) (.int .i64 (i : Int)) rfl (fun w0 hS0 => ?_) ?_
            · go_simp
            try simp only [u, lt, l0, ls]
            refine Till.tk 4 (oi := ⟨some 75, .indexAddr 33 (.tmp 73) (.tmp 74), 0, "order.go:74", #[⟨2, .data⟩, ⟨3, .data⟩], none⟩) (.pointer (some ⟨C.gs, i, none⟩)) rfl (fun w0 hS0 => ?_) ?_
            · go_simp
            try simp only [u, lt, l0, ls]
            refine Till.tk 5 (oi := ⟨some 76, .load 3 (.tmp 75), 3, "order.go:74", #[⟨4, .data⟩], none⟩) (.int .i64 (x : Int)) rfl (fun w0 hS0 => ?_) ?_
            · have q := hS0.2.2; go_simp
            try simp only [u, lt, l0, ls]
            refine Till.tk 6 (oi := ⟨some 77, .indexAddr 33 (.tmp 71) (.tmp 72), 0, "order.go:74", #[⟨0, .data⟩, ⟨1, .data⟩, ⟨0, .phase⟩, ⟨1, .phase⟩, ⟨2, .phase⟩, ⟨3, .phase⟩, ⟨4, .phase⟩, ⟨5, .phase⟩], none⟩) (.pointer (some ⟨C.gp, a, none⟩)) rfl (fun w0 hS0 => ?_) ?_
            · go_simp
            try simp only [u, lt, l0, ls]
            refine Till.tn 7 (o := ⟨none, .store 3 (.tmp 77) (.tmp 76), 0, "order.go:74", #[⟨6, .data⟩, ⟨5, .data⟩, ⟨0, .phase⟩, ⟨1, .phase⟩, ⟨2, .phase⟩, ⟨3, .phase⟩, ⟨4, .phase⟩, ⟨5, .phase⟩], none⟩) rfl fun K hK => ?_
            go_simp
            refine hK.out _ _ (fun _ => ⟨HSn.out.xp.cell, HSn.out.xs.cell, HSn.out.spare HXi.out⟩) ?_
            clear hK K
            try simp only [u, lt, l0, ls]
            refine Till.done (by kernel_rfl) ?_
            go_wp2_with fail
            refine ⟨?_, ?measure⟩
            (repeat apply Exists.intro)
            refine ⟨?rel, rfl⟩
            case rel => exact ⟨p + 1, q, Zc.set a x, i + 1, j, a + 1, Lib.hid (by have := HJ.out; omega), by simp, by simp, by simp, Lib.hid (by rw [HJ.out.2.2]; exact HMr.out.left (by omega) (by omega) HX.out (.inl (by have := HJ.out; omega))), HSn⟩
            case measure => simp [intOf]; omega
        · have d1 : decide ((i : Int) < (h : Int)) = false := decide_eq_false (by omega)
          have HE := Lib.hid (HMr.out.done (by omega) (by have := HJ.out; have := HL.out; omega))
          rw [HE.out] at HSr
          go_wp2_with fail
          go_end0
          exact ⟨_, _, X3, rfl, HF.out, HSr.out⟩
end Go.Proofs.YtfhagjnlliafiaaGreatDoor.O
