/-
  What the program's Sort returns.
  Conditions: each fact's own.
-/
import Derived.Test.YtfhagjnlliafiaaGreatDoorKOArr
import Derived.Laws.EntriesVeiled
import Derived.Test.YtfhagjnlliafiaaGreatDoorKICols
import Derived.Test.YtfhagjnlliafiaaGreatDoorKPut
set_option linter.unusedSimpArgs false
set_option linter.unusedVariables false
set_option maxHeartbeats 16000000
set_option maxRecDepth 100000
open List renaming setIfInBounds_toArray → lt, set_cons_zero → l0, set_cons_succ → ls
open Go.Act renaming put → u
namespace Go.Proofs.YtfhagjnlliafiaaGreatDoor.O
open Go.Proofs.YtfhagjnlliafiaaGreatDoor.B
open Go.RowKit
theorem Box.new (w : World) (v : Value) (t : TypeId) : Box (w.alloc (.cells #[v] t)) w.heap.size v := ⟨t, heap_alloc_new w _⟩
theorem Box.next {w : World} {k : Nat} {v : Value} (h : Box w k v) (o : Obj) : Box (w.alloc o) k v := h.keep ((Below.refl _ _).alloc (Nat.le_refl _) _)
theorem four_boxes (w : World) (u0 u1 u2 u3 : Value) (t0 t1 t2 t3 : TypeId) :
    Box ((((w.alloc (.cells #[u0] t0)).alloc (.cells #[u1] t1)).alloc (.cells #[u2] t2)).alloc (.cells #[u3] t3)) w.heap.size u0 ∧ Box ((((w.alloc (.cells #[u0] t0)).alloc (.cells #[u1] t1)).alloc (.cells #[u2] t2)).alloc (.cells #[u3] t3)) (w.heap.size + 1) u1 ∧
    Box ((((w.alloc (.cells #[u0] t0)).alloc (.cells #[u1] t1)).alloc (.cells #[u2] t2)).alloc (.cells #[u3] t3)) (w.heap.size + 1 + 1) u2 ∧ Box ((((w.alloc (.cells #[u0] t0)).alloc (.cells #[u1] t1)).alloc (.cells #[u2] t2)).alloc (.cells #[u3] t3)) (w.heap.size + 1 + 1 + 1) u3 ∧
    ((((w.alloc (.cells #[u0] t0)).alloc (.cells #[u1] t1)).alloc (.cells #[u2] t2)).alloc (.cells #[u3] t3)).heap.size = w.heap.size + 1 + 1 + 1 + 1 ∧
    Below w.heap.size w ((((w.alloc (.cells #[u0] t0)).alloc (.cells #[u1] t1)).alloc (.cells #[u2] t2)).alloc (.cells #[u3] t3)) := by
  have s1 : (w.alloc (.cells #[u0] t0)).heap.size = w.heap.size + 1 := by simp
  have s2 : ((w.alloc (.cells #[u0] t0)).alloc (.cells #[u1] t1)).heap.size = w.heap.size + 1 + 1 := by simp
  have s3 : (((w.alloc (.cells #[u0] t0)).alloc (.cells #[u1] t1)).alloc (.cells #[u2] t2)).heap.size = w.heap.size + 1 + 1 + 1 := by simp
  refine ⟨((Box.new w u0 t0).next _ |>.next _).next _, ?_, ?_, ?_, by simp, ((((Below.refl _ _).alloc (Nat.le_refl _) _).alloc (by simp) _).alloc (by simp; omega) _).alloc (by simp; omega) _⟩
  · have := ((Box.new (w.alloc (.cells #[u0] t0)) u1 t1).next (.cells #[u2] t2)).next (.cells #[u3] t3)
    rwa [s1] at this
  · have := (Box.new ((w.alloc (.cells #[u0] t0)).alloc (.cells #[u1] t1)) u2 t2).next (.cells #[u3] t3)
    rwa [s2] at this
  · have := Box.new (((w.alloc (.cells #[u0] t0)).alloc (.cells #[u1] t1)).alloc (.cells #[u2] t2)) u3 t3
    rwa [s3] at this
theorem row_of {w : World} {base : Nat} {e : TypeId} {g n : Nat} {xs : List Value} (h : w.ownsRow base e 1 (.slice (some ⟨g, 0, none⟩) n n) n xs) : w.heap[g]? = some (.cells xs.toArray e (0, 0)) := by
  obtain ⟨hl, h⟩ := h
  rcases h with ⟨h, _⟩ | ⟨g', cap', cur, hv, hb, hg, hnc, hcm, hcs, ht⟩
  · cases h
  · simp only [Value.slice.injEq, Option.some.injEq, Addr.mk.injEq] at hv
    obtain ⟨⟨rfl, _, _⟩, _, rfl⟩ := hv
    rw [Nat.mul_one] at hcs ht
    rw [List.take_of_length_le (by rw [Array.length_toList, hcs]; exact Nat.le_refl _)] at ht
    rw [hg, ← ht]
theorem row_owns {w : World} {base : Nat} {e : TypeId} {g n : Nat} {xs : List Value} (hb : base ≤ g) (hg : w.heap[g]? = some (.cells xs.toArray e (0, 0))) (hn : xs.length = n) (hm : n ≤ maxLen) : w.ownsRow base e 1 (.slice (some ⟨g, 0, none⟩) n n) n xs := by
  refine ⟨by rw [Nat.mul_one]; exact hn, .inr ⟨g, n, xs.toArray, rfl, hb, hg, Nat.le_refl _, hm, by rw [List.size_toArray, Nat.mul_one]; exact hn, ?_⟩⟩
  rw [Nat.mul_one]
  exact List.take_of_length_le (Nat.le_of_eq hn)
theorem made_zeros (n : Nat) : (madeCells (Value.int .i64 0).cells (n * 1)).toList = natsV (List.replicate n 0) := by
  have : (Value.int .i64 0).cells = #[.int .i64 0] := rfl
  rw [this, toList_madeCells_one, Nat.mul_one]
  unfold natsV
  rw [List.map_replicate]
  rfl
def initL (i n : Nat) : List Nat := List.range i ++ List.replicate (n - i) 0
theorem init_at {i n : Nat} (h : i < n) : (initL i n)[i]? = some 0 := by
  unfold initL
  rw [List.getElem?_append_right (by rw [List.length_range]; exact Nat.le_refl _), List.length_range, Nat.sub_self, List.getElem?_replicate, if_pos (by omega)]
theorem init_step {i n : Nat} (h : i < n) : (initL i n).set i i = initL (i + 1) n := by
  unfold initL
  obtain ⟨k, rfl⟩ : ∃ k, n = i + 1 + k := ⟨n - (i + 1), by omega⟩
  rw [show i + 1 + k - i = k + 1 by omega, show i + 1 + k - (i + 1) = k by omega, List.replicate_succ, List.set_append_right _ _ (by rw [List.length_range]; exact Nat.le_refl _), List.length_range, Nat.sub_self, List.set_cons_zero, List.range_succ, List.append_assoc]
  rfl
theorem init_end (n : Nat) : initL n n = List.range n := by
  unfold initL
  rw [Nat.sub_self]
  exact List.append_nil _
structure Mem (L : List (Nat × Value)) (R : List (Nat × List Nat)) (W : World) : Prop where
  box : ∀ p ∈ L, Box W p.1 p.2
  row : ∀ p ∈ R, W.heap[p.1]? = some (.cells (natsV p.2).toArray 3 (0, 0))
theorem Mem.keep {L : List (Nat × Value)} {R : List (Nat × List Nat)} {W W' : World} (h : Mem L R W) (hb : Below W.heap.size W W') : Mem L R W' :=
  ⟨fun p hp => (h.box p hp).keep hb, fun p hp => (hb.block _ (heap_lt (h.row p hp))).trans (h.row p hp)⟩
theorem Mem.more {L : List (Nat × Value)} {R : List (Nat × List Nat)} {W W' : World} (h : Mem L R W) (hb : Below W.heap.size W W') {k : Nat} {v : Value} (hv : Box W' k v) : Mem ((k, v) :: L) R W' :=
  ⟨fun p hp => by
    rcases List.mem_cons.1 hp with rfl | hp
    · exact hv
    · exact (h.keep hb).box p hp, (h.keep hb).row⟩
theorem Mem.moreR {L : List (Nat × Value)} {R : List (Nat × List Nat)} {W W' : World} (h : Mem L R W) (hb : Below W.heap.size W W') {g : Nat} {Z : List Nat} (hg : W'.heap[g]? = some (.cells (natsV Z).toArray 3 (0, 0))) : Mem L ((g, Z) :: R) W' :=
  ⟨(h.keep hb).box, fun p hp => by
    rcases List.mem_cons.1 hp with rfl | hp
    · exact hg
    · exact (h.keep hb).row p hp⟩
theorem mem_four {W : World} {k0 k1 k2 k3 : Nat} {v0 v1 v2 v3 : Value} (h : Box W k0 v0 ∧ Box W k1 v1 ∧ Box W k2 v2 ∧ Box W k3 v3) : Mem [(k3, v3), (k2, v2), (k1, v1), (k0, v0)] [] W := by
  refine ⟨fun p hp => ?_, fun p hp => by cases hp⟩
  simp only [List.mem_cons, List.not_mem_nil, or_false] at hp
  rcases hp with rfl | rfl | rfl | rfl
  · exact h.2.2.2
  · exact h.2.2.1
  · exact h.2.1
  · exact h.1
theorem Mem.set1 {L : List (Nat × Value)} {g : Nat} {Z : List Nat} {W : World} (h : Mem L [(g, Z)] W) (hne : ∀ p ∈ L, p.1 ≠ g) (j v : Nat) : Mem L [(g, Z.set j v)] (W.setCell ⟨g, j, none⟩ (.int .i64 (v : Int))) := by
  refine ⟨fun p hp => (h.box p hp).at_ (heap_setCell_other _ _ _ _ (hne p hp)), fun p hp => ?_⟩
  obtain rfl := List.mem_singleton.1 hp
  have e : W.heap[g]? = some (.cells (natsV Z).toArray 3 (0, 0)) := h.row (g, Z) (List.mem_singleton.2 rfl)
  show (W.setCell ⟨g, j, none⟩ (.int .i64 (v : Int))).heap[g]? = some (.cells (natsV (Z.set j v)).toArray 3 (0, 0))
  rw [heap_setCell_same _ _ _ _ _ _ e]
  congr 2
  unfold natsV
  rw [List.setIfInBounds_toArray, List.map_set]
theorem Mem.at1 {L : List (Nat × Value)} {g : Nat} {Z : List Nat} {W : World} (h : Mem L [(g, Z)] W) {j x : Nat} (hj : Z[j]? = some x) : W.cell? ⟨g, j, none⟩ = some (.int .i64 (x : Int)) ∧ W.frozen? ⟨g, j, none⟩ = false := by
  have e : W.heap[g]? = some (.cells (natsV Z).toArray 3 (0, 0)) := h.row (g, Z) (List.mem_singleton.2 rfl)
  refine ⟨?_, frozen_of_row _ _ _ _ _ e⟩
  rw [cell_of_row _ _ _ _ _ _ e, List.getElem?_toArray]
  exact natsV_get hj
def InitRel (n gp bp : Nat) (L : List (Nat × Value)) (w : World) (v : Value) (wr : World) : Prop :=
  ∃ i : Nat, v = .int .i64 (i : Int) ∧ i ≤ n ∧ Hid (Mem L [(gp, initL i n)] wr) ∧ Hid (Below w.heap.size w wr)
def sortCfg (w : World) (o : Int) (rev dirs : Bool) (l : List Ky) (a : Option Addr) (cap b1 b2 b3 gp bp bc gs bs ba : Nat) : Cfg :=
  { w0 := w, o := o, rev := rev, dirs := dirs, l := l, a := a, cap := cap, bo := w.heap.size, br := b1, bd := b2, bl := b3, gp := gp, bp := bp, bc := bc, gs := gs, bs := bs, ba := ba }
theorem sort_ready (w : World) (o : Int) (rev dirs : Bool) (l : List Ky) (a : Option Addr) (cap b1 b2 b3 gp bp bc gs bs ba : Nat) (W : World)
    (h1 : w.heap.size < gp ∧ b1 < gp ∧ b2 < gp ∧ b3 < gp) (h2 : gp < bp ∧ bp < bc ∧ bc < gs ∧ gs < bs ∧ bs < ba) (H : IsKeys w a l) (hl : l.length ≤ 1000) (hz : ∀ c ∈ l, c.name.size ≤ 60000)
    (HM : Mem [(ba, .func (.func 73) #[] #[.pointer (some ⟨ba, 0, none⟩), .pointer (some ⟨bs, 0, none⟩), .pointer (some ⟨bp, 0, none⟩), .pointer (some ⟨bc, 0, none⟩)]),
      (bs, .slice (some ⟨gs, 0, none⟩) l.length l.length),
      (bc, .func (.func 71) #[] #[.pointer (some ⟨w.heap.size, 0, none⟩), .pointer (some ⟨b1, 0, none⟩), .pointer (some ⟨b2, 0, none⟩), .pointer (some ⟨b3, 0, none⟩)]),
      (bp, .slice (some ⟨gp, 0, none⟩) l.length l.length), (b3, .slice a l.length cap), (b2, .bool dirs), (b1, .bool rev), (w.heap.size, .int .i64 o)] [(gs, List.replicate l.length 0), (gp, List.range l.length)] W)
    (HB : Below w.heap.size w W) : CfgOK (sortCfg w o rev dirs l a cap b1 b2 b3 gp bp bc gs bs ba) ∧ SI (sortCfg w o rev dirs l a cap b1 b2 b3 gp bp bc gs bs ba) (List.range l.length) (List.replicate l.length 0) W := by
  obtain ⟨q1, q2, q3, q4⟩ := h1
  obtain ⟨q5, q6, q7, q8, q9⟩ := h2
  refine ⟨⟨?_, ?_, ?_, ?_, ?_, H, hl, hz⟩, ⟨HB, ?_, ?_, ?_, ?_, ?_, ?_, ?_, ?_, ?_, ?_, List.length_range, List.length_replicate⟩⟩
  · show gp ≠ gs; omega
  · show w.heap.size ≠ gp ∧ b1 ≠ gp ∧ b2 ≠ gp ∧ b3 ≠ gp ∧ bp ≠ gp ∧ bc ≠ gp ∧ bs ≠ gp ∧ ba ≠ gp; omega
  · show w.heap.size ≠ gs ∧ b1 ≠ gs ∧ b2 ≠ gs ∧ b3 ≠ gs ∧ bp ≠ gs ∧ bc ≠ gs ∧ bs ≠ gs ∧ ba ≠ gs; omega
  · show w.heap.size ≤ gp; omega
  · show w.heap.size ≤ gs; omega
  · exact HM.box (w.heap.size, _) (.tail _ (.tail _ (.tail _ (.tail _ (.tail _ (.tail _ (.tail _ (.head _))))))))
  · exact HM.box (b1, _) (.tail _ (.tail _ (.tail _ (.tail _ (.tail _ (.tail _ (.head _)))))))
  · exact HM.box (b2, _) (.tail _ (.tail _ (.tail _ (.tail _ (.tail _ (.head _))))))
  · exact HM.box (b3, _) (.tail _ (.tail _ (.tail _ (.tail _ (.head _)))))
  · exact HM.box (bp, _) (.tail _ (.tail _ (.tail _ (.head _))))
  · exact HM.box (bc, _) (.tail _ (.tail _ (.head _)))
  · exact HM.box (bs, _) (.tail _ (.head _))
  · exact HM.box (ba, _) (.head _)
  · exact HM.row (gp, _) (.tail _ (.head _))
  · exact HM.row (gs, _) (.head _)
theorem arr_all (C : Cfg) (ok : CfgOK C) (W : World) (h : SI C (List.range C.l.length) (List.replicate C.l.length 0) W) :
    Calls Tryz.prog 73 #[.int .i64 0, .int .i64 (C.l.length : Int), .pointer (some ⟨C.ba, 0, none⟩), .pointer (some ⟨C.bs, 0, none⟩), .pointer (some ⟨C.bp, 0, none⟩), .pointer (some ⟨C.bc, 0, none⟩)] W fun e W' =>
      ∃ v r X', e = .returned v ∧ SortOf (aheadL (soC C.o C.rev C.dirs) C.l) (List.range C.l.length) r ∧ SI C r X' W' := by
  refine (arr_any C ok C.l.length 0 C.l.length (List.range C.l.length) (List.replicate C.l.length 0) W (by omega) (Nat.zero_le _) (Nat.le_refl _) h (fun k _ hk => by rw [List.getElem?_range hk])).mono ?_
  rintro e w7 ⟨v7, r, X, rfl, hso, hsi⟩
  rw [Nat.sub_zero, ← List.range_eq_range'] at hso
  rw [List.take_zero, List.nil_append, List.drop_of_length_le (by rw [List.length_range]; exact Nat.le_refl _), List.append_nil] at hsi
  exact ⟨_, r, X, rfl, hso, hsi⟩
theorem psort_any (o : Int) (rev dirs : Bool) (l : List Ky) (a : Option Addr) (cap : Nat) (w : World) (H : IsKeys w a l) (hl : l.length ≤ 1000) (hz : ∀ c ∈ l, c.name.size ≤ 60000) :
    Calls Tryz.prog 43 #[.int .i64 o, .bool rev, .bool dirs, .slice a l.length cap] w fun e w' => ∃ v p, e = .returned v ∧ Sorted (soC o rev dirs) l p ∧ w'.ownsRow w.heap.size 3 1 v l.length (ints (p.map fun i : Nat => (i : Int))) ∧ Below w.heap.size w w' := by
  obtain ⟨i0, hi0, hz0, hz1, hz2⟩ := info_parts infoInt
  have HH := Lib.hid H
  have HZ := Lib.hid hz
  clear H hz
  obtain ⟨n, hn⟩ : ∃ n, l.length = n := ⟨_, rfl⟩
  have HN := Lib.hid hn
  rw [hn] at hl ⊢
  clear hn
  go_enter Tryz.func43, Tryz.ntmps43
  go_upto_region 1 with fail
  obtain ⟨X0, X1, X2, X3, XS, XB⟩ := four_boxes w (.int .i64 o) (.bool rev) (.bool dirs) (.slice a n cap) 3 4 4 66
  have HB := Lib.hid XB
  have HX := Lib.hid (And.intro X0 (And.intro X1 (And.intro X2 X3)))
  clear X0 X1 X2 X3 XB
  generalize (((w.alloc (.cells #[.int .i64 o] 3)).alloc (.cells #[.bool rev] 4)).alloc (.cells #[.bool dirs] 4)).alloc (.cells #[.slice a n cap] 66) = wA at HX HB XS ⊢
  have HLt := Lib.hid (show w.heap.size < w.heap.size + 1 + 1 + 1 + 1 ∧ w.heap.size + 1 < w.heap.size + 1 + 1 + 1 + 1 ∧ w.heap.size + 1 + 1 < w.heap.size + 1 + 1 + 1 + 1 ∧ w.heap.size + 1 + 1 + 1 < w.heap.size + 1 + 1 + 1 + 1 from ⟨by omega, by omega, by omega, by omega⟩)
  rw [← XS] at HLt
  generalize w.heap.size + 1 + 1 + 1 = b3 at HX HLt ⊢
  generalize w.heap.size + 1 + 1 = b2 at HX HLt ⊢
  generalize w.heap.size + 1 = b1 at HX HLt ⊢
  clear XS
  have x3 := HX.out.2.2.2.cell
  go_upto_region 2 with (at_make; go_loud (refine wpList_make_full _ rfl (.tmp 15) (.tmp 15) 33 rfl w.heap.size 3 i0 (.int .i64 0) 1 Tryz.underlying33 hi0 hz0 hz1 .i64 .i64 _ _ n rfl rfl rfl rfl (by rw [hz2]; omega) (by unfold maxLen; omega) HB.out.size ?_; intro w1 hown hgrow))
  have hcells := made_zeros n
  rw [hcells] at hown
  have HM1 := Lib.hid (Mem.moreR (mem_four HX.out) ((Below.refl _ _).grown hgrow (Nat.le_refl _) (fun j hj => by cases hj)) (row_of hown))
  have HB1 := Lib.hid (HB.out.grown hgrow HB.out.size (fun j hj => by cases hj))
  have hg1 : wA.heap.size < w1.heap.size := heap_lt (row_of hown)
  clear hown hgrow hcells x3 HX HB
  generalize wA.heap.size = gp at HLt HM1 hg1 ⊢
  have HM2 := Lib.hid (HM1.out.more ((Below.refl _ _).alloc (Nat.le_refl _) (.cells #[.slice (some ⟨gp, 0, none⟩) n n] 33)) (Box.new w1 _ _))
  have HB2 := Lib.hid (HB1.out.alloc HB1.out.size (.cells #[.slice (some ⟨gp, 0, none⟩) n n] 33))
  generalize w1.alloc (.cells #[.slice (some ⟨gp, 0, none⟩) n n] 33) = w2 at HM2 HB2 ⊢
  clear HM1 HB1
  generalize w1.heap.size = bp at hg1 HM2 ⊢
  have c1 : w2.cell? ⟨bp, 0, none⟩ = some (.slice (some ⟨gp, 0, none⟩) n n) := (HM2.out.box _ (List.mem_cons_self)).cell
  have HNe := Lib.hid (show ∀ p ∈ [(bp, Value.slice (some ⟨gp, 0, none⟩) n n), (b3, .slice a n cap), (b2, .bool dirs), (b1, .bool rev), (w.heap.size, .int .i64 o)], p.1 ≠ gp from fun p hp => by
    have q := HLt.out
    simp only [List.mem_cons, List.not_mem_nil, or_false] at hp
    rcases hp with rfl | rfl | rfl | rfl | rfl <;> (simp only []; omega))
  generalize hLL : [(bp, Value.slice (some ⟨gp, 0, none⟩) n n), (b3, .slice a n cap), (b2, .bool dirs), (b1, .bool rev), (w.heap.size, .int .i64 o)] = L2 at HM2 HNe
  have HLL := Lib.hid hLL
  clear hLL
  go_wp2_with fail
  go_loopw [19] (InitRel n gp bp L2 w) (fun v _ => n - (intOf v).toNat)
  case atStart => exact ⟨0, rfl, Nat.zero_le _, HM2, HB2⟩
  case round =>
    obtain ⟨i, rfl, hin, HM, HBi⟩ := hrel
    have c2 : wr.cell? ⟨bp, 0, none⟩ = some (.slice (some ⟨gp, 0, none⟩) n n) := (HM.out.box (bp, _) (by rw [← HLL.out]; exact List.mem_cons_self)).cell
    by_cases hi : i < n
    · have e1 : decide ((i : Int) < (n : Int)) = true := decide_eq_true (by omega)
      obtain ⟨c3, c4⟩ := HM.out.at1 (init_at hi)
      have HMn := Lib.hid (show Mem L2 [(gp, initL (i + 1) n)] (wr.setCell ⟨gp, i, none⟩ (.int .i64 (i : Int))) from by rw [← init_step hi]; exact HM.out.set1 HNe.out i i)
      have HBn := Lib.hid (HBi.out.setCell (p := ⟨gp, i, none⟩) (Nat.le_of_lt HLt.out.1) (.int .i64 (i : Int)))
      go_wp2_with fail
      go_roundw
      case rel => exact ⟨i + 1, by simp, by omega, HMn, HBn⟩
      case measure => simp [intOf]; omega
    · have e1 : decide ((i : Int) < (n : Int)) = false := decide_eq_false (by omega)
      obtain rfl : i = n := by omega
      rw [init_end] at HM
      go_upto_region 8 with fail
      clear c1 c2 HM2 HB2 HNe
      have hbc : bp < wr.heap.size := (HM.out.box (bp, .slice (some ⟨gp, 0, none⟩) i i) (by rw [← HLL.out]; exact List.mem_cons_self)).elim fun _ h => heap_lt h
      have HM3 := Lib.hid (HM.out.more ((Below.refl _ _).alloc (Nat.le_refl _) (.cells #[.func (.func 71) #[] #[.pointer (some ⟨w.heap.size, 0, none⟩), .pointer (some ⟨b1, 0, none⟩), .pointer (some ⟨b2, 0, none⟩), .pointer (some ⟨b3, 0, none⟩)]] 126)) (Box.new wr _ _))
      have HB3 := Lib.hid (HBi.out.alloc HBi.out.size (.cells #[.func (.func 71) #[] #[.pointer (some ⟨w.heap.size, 0, none⟩), .pointer (some ⟨b1, 0, none⟩), .pointer (some ⟨b2, 0, none⟩), .pointer (some ⟨b3, 0, none⟩)]] 126))
      generalize wr.alloc (.cells #[.func (.func 71) #[] #[.pointer (some ⟨w.heap.size, 0, none⟩), .pointer (some ⟨b1, 0, none⟩), .pointer (some ⟨b2, 0, none⟩), .pointer (some ⟨b3, 0, none⟩)]] 126) = w3 at HM3 HB3 ⊢
      clear HM HBi
      generalize wr.heap.size = bc at hbc HM3 ⊢
      have c3 : w3.cell? ⟨b3, 0, none⟩ = some (.slice a i cap) := (HM3.out.box (b3, _) (by rw [← HLL.out]; exact List.mem_cons_of_mem _ (List.mem_cons_of_mem _ (List.mem_cons_self)))).cell
      have hbs : bc < w3.heap.size := (HM3.out.box (bc, _) (List.mem_cons_self)).elim fun _ h => heap_lt h
      go_upto_region 9 with (at_make; go_loud (refine wpList_make_full _ rfl (.tmp 29) (.tmp 29) 33 rfl w.heap.size 3 i0 (.int .i64 0) 1 Tryz.underlying33 hi0 hz0 hz1 .i64 .i64 _ _ i rfl rfl rfl rfl (by rw [hz2]; omega) (by unfold maxLen; omega) HB3.out.size ?_; intro w4 hown hgrow))
      have hcells := made_zeros i
      rw [hcells] at hown
      have HM4 := Lib.hid (HM3.out.moreR ((Below.refl _ _).grown hgrow (Nat.le_refl _) (fun j hj => by cases hj)) (row_of hown))
      have HB4 := Lib.hid (HB3.out.grown hgrow HB3.out.size (fun j hj => by cases hj))
      have hg4 : w3.heap.size < w4.heap.size := heap_lt (row_of hown)
      clear hown hgrow hcells c3 HM3 HB3
      generalize w3.heap.size = gs at hbs HM4 hg4 ⊢
      have HM5 := Lib.hid (HM4.out.more ((Below.refl _ _).alloc (Nat.le_refl _) (.cells #[.slice (some ⟨gs, 0, none⟩) i i] 33)) (Box.new w4 _ _))
      have HB5 := Lib.hid (HB4.out.alloc HB4.out.size (.cells #[.slice (some ⟨gs, 0, none⟩) i i] 33))
      generalize w4.alloc (.cells #[.slice (some ⟨gs, 0, none⟩) i i] 33) = w5 at HM5 HB5 ⊢
      clear HM4 HB4
      generalize w4.heap.size = bs at hg4 HM5 ⊢
      have hba : bs < w5.heap.size := (HM5.out.box (bs, _) (List.mem_cons_self)).elim fun _ h => heap_lt h
      go_upto_region 11 with fail
      have HM6 := Lib.hid (HM5.out.more ((Below.refl _ _).alloc (Nat.le_refl _) (.cells #[.func (.func 73) #[] #[.pointer (some ⟨w5.heap.size, 0, none⟩), .pointer (some ⟨bs, 0, none⟩), .pointer (some ⟨bp, 0, none⟩), .pointer (some ⟨bc, 0, none⟩)]] 127)) (Box.new w5 _ _))
      have HB6 := Lib.hid (HB5.out.alloc HB5.out.size (.cells #[.func (.func 73) #[] #[.pointer (some ⟨w5.heap.size, 0, none⟩), .pointer (some ⟨bs, 0, none⟩), .pointer (some ⟨bp, 0, none⟩), .pointer (some ⟨bc, 0, none⟩)]] 127))
      generalize w5.alloc (.cells #[.func (.func 73) #[] #[.pointer (some ⟨w5.heap.size, 0, none⟩), .pointer (some ⟨bs, 0, none⟩), .pointer (some ⟨bp, 0, none⟩), .pointer (some ⟨bc, 0, none⟩)]] 127) = w6 at HM6 HB6 ⊢
      clear HM5 HB5
      generalize w5.heap.size = ba at hba HM6 ⊢
      obtain rfl := HLL.out
      obtain rfl := HN.out
      have HC := Lib.hid (sort_ready w o rev dirs l a cap b1 b2 b3 gp bp bc gs bs ba w6 HLt.out ⟨hg1, hbc, hbs, hg4, hba⟩ HH.out hl HZ.out HM6.out HB6.out)
      have c1 : w6.cell? ⟨ba, 0, none⟩ = some (.func (.func 73) #[] #[.pointer (some ⟨ba, 0, none⟩), .pointer (some ⟨bs, 0, none⟩), .pointer (some ⟨bp, 0, none⟩), .pointer (some ⟨bc, 0, none⟩)]) := HC.out.2.xa.cell
      have c2 : w6.cell? ⟨bp, 0, none⟩ = some (.slice (some ⟨gp, 0, none⟩) l.length l.length) := HC.out.2.xp.cell
      clear HM6 HB6 HLL HN hin hi e1
      go_wp2_with fail
      refine (arr_all _ HC.out.1 w6 HC.out.2).mono ?_
      rintro e w7 ⟨v7, r, X, rfl, hso, hsi⟩
      have HS7 := Lib.hid hsi
      have HO7 := Lib.hid hso
      clear hso hsi c1 c2 HC
      have c2 : w7.cell? ⟨bp, 0, none⟩ = some (.slice (some ⟨gp, 0, none⟩) l.length l.length) := HS7.out.xp.cell
      go_wp2_with fail
      go_ret
      exact ⟨_, r, rfl, HO7.out.range, by rw [← natsV_ints]; exact row_owns (Nat.le_of_lt HLt.out.1) HS7.out.pl (by rw [natsV_len]; exact HS7.out.lz) (by unfold maxLen; omega), HS7.out.low⟩
end Go.Proofs.YtfhagjnlliafiaaGreatDoor.O
namespace Go.Proofs.YtfhagjnlliafiaaGreatDoor.O
open Go.Proofs.YtfhagjnlliafiaaGreatDoor.B
open Go.RowKit
def PT (w : World) : Prop := True
theorem PT.keep {w w' : World} (h : PT w) (hb : Below w.heap.size w w') : PT w' := h
theorem tab_of {P Q : Prop} {W : World} (h : P) (h2 : Q) : PT W := trivial
theorem osort_any (o : Int) (rev dirs : Bool) (l : List Ky) (a : Option Addr) (cap : Nat) (w : World) (hp : PT w) (H : IsKeys w a l) (hl : l.length ≤ 1000) (hz : ∀ c ∈ l, c.name.size ≤ 60000) :
    Calls Tryz.prog 43 #[.int .i64 o, .bool rev, .bool dirs, .slice a l.length cap] w fun e w' => ∃ v p, e = .returned v ∧ Sorted (soC o rev dirs) l p ∧ w'.ownsRow w.heap.size 3 1 v l.length (ints (p.map fun i : Nat => (i : Int))) ∧ Below w.heap.size w w' := psort_any o rev dirs l a cap w H hl hz
end Go.Proofs.YtfhagjnlliafiaaGreatDoor.O
namespace Go.Proofs.YtfhagjnlliafiaaGreatDoor.I
open Go.Proofs.YtfhagjnlliafiaaGreatDoor.B
open Go.RowKit
def ky0 : O.Ky := ⟨⟨#[]⟩, 0, 0, false⟩
theorem kyL_len (k : O.Ky) : (O.kyL k).length = 4 := rfl
theorem infoKy : (Tryz.prog.info? 70).map (fun i => (i.zero, i.size, i.bytes)) = some (some (O.kyV ky0), 4, 40) := by kernel_rfl
theorem sizeKy : (Tryz.prog.info? 70).map (·.size) = some 4 := by kernel_rfl
theorem ky_made (n : Nat) : (madeCells (O.kyV ky0).cells (n * 4)).toList = cellsC O.kyL (List.replicate n ky0) := made_cells (z := (O.kyV ky0).cells) rfl ky0 rfl (by decide) n
theorem owns_apart {w : World} {b1 b2 : Nat} {e1 e2 : TypeId} {s1 s2 n1 n2 : Nat} {v1 v2 : Value} {x1 x2 : List Value} (h1 : w.ownsRow b1 e1 s1 v1 n1 x1) (h2 : w.ownsRow b2 e2 s2 v2 n2 x2) (hne : e1 ≠ e2) : v1.ownBlock = none ∨ v1.ownBlock ≠ v2.ownBlock := by
  cases hk : v1.ownBlock with
  | none => exact .inl rfl
  | some k =>
    refine .inr fun e => ?_
    obtain ⟨c1, h1⟩ := owns_type h1 hk
    obtain ⟨c2, h2⟩ := owns_type h2 e.symm
    rw [h1] at h2
    simp only [Option.some.injEq, Obj.cells.injEq] at h2
    exact hne h2.2.1
def KeysRel (w2 : World) (gk : Nat) (K : List O.Ky) (v31 : Value) (wr : World) : Prop :=
  ∃ i : Nat, i ≤ K.length ∧ v31 = .int .i64 (i : Int) ∧ Hid (wr.ownsRow w2.heap.size 70 4 (.slice (some ⟨gk, 0, none⟩) K.length K.length) K.length (cellsC O.kyL (setsL K ky0 i))) ∧ Hid (Below w2.heap.size w2 wr)
def ToldRel (M : List V.Nd) (T : List En) (p : List Nat) (w w4 w5 : World) (bp : Nat) (pv : Value) (v11 v66 : Value) (wr : World) : Prop :=
  ∃ j : Nat, j ≤ p.length ∧ v66 = .int .i64 (j : Int) ∧ Hid (wr.ownsRow w4.heap.size 65 16 v11 j (cellsC (itC M) (pickL T (p.take j)))) ∧ Hid (wr.ownsRow bp 3 1 pv T.length (O.ints (p.map fun i : Nat => (i : Int)))) ∧ Hid (Below w4.heap.size w4 wr)
theorem take_nat {p : List Nat} {k i : Nat} (h : p[k]? = some i) : p.take (k + 1) = p.take k ++ [i] := by
  obtain ⟨hk, he⟩ := List.getElem?_eq_some_iff.1 h
  rw [List.take_succ_eq_append_getElem hk, he]
theorem keysI_at {M : List V.Nd} {c : Int} {l : List En} {i : Nat} {e : En} (h : (thereL M l)[i]? = some e) : (keysI M c l)[i]? = some (keyI M c e) := by
  unfold keysI
  rw [List.getElem?_map, h]
  rfl
theorem sorted_any {M : List V.Nd} {p : Nat} (h : Hw) (l : List En) (a : Option Addr) (cap : Nat) (v0 w : World) (hf : V.Has v0 p M w) (hG : GoodI M) (H : EntL w a l) (hl : l.length ≤ 1000) (hz : ∀ e ∈ l, e.1.size ≤ 60000) :
    Calls Tryz.prog 20 #[.pointer (some ⟨p, 0, none⟩), .slice a l.length cap, hwV h] w fun e w' => ∃ v out, e = .returned v ∧ SortedI M h.order h.rev h.dirs h.clock l out ∧ w'.ownsRow w.heap.size 65 16 v out.length (cellsC (itC M) out) ∧ Below w.heap.size w w' := by
  obtain ⟨i0, hi0, hz0, hz1, hz2⟩ := info_parts infoIt
  obtain ⟨j0, hj0, hy0, hy1, hy2⟩ := info_parts infoKy
  have HIt := Lib.hid (fun (W : World) (hb : Below w.heap.size w W) => items_any l a cap v0 W (hf.keep hb) hG (H.keep hb) (by omega))
  have HTz := Lib.hid (show ∀ e ∈ thereL M l, e.1.size ≤ 60000 from fun e he => hz e (there_mem he).1)
  have HKz := Lib.hid (show ∀ c ∈ keysI M h.clock l, c.name.size ≤ 60000 from fun c hc => by
    obtain ⟨e, he, rfl⟩ := List.mem_map.1 hc
    exact hz e (there_mem he).1)
  have hTl := there_len M l
  have HTm := Lib.hid (fun (s : ByteArray) (k i : Int) (n : P.Nv) (W : World) => time_any s k i n h W)
  unfold itV at HTm
  have HHw := Lib.hid (show hwV h = .agg (hwL h).toArray from rfl)
  clear hf hG H hz
  obtain ⟨o, ho⟩ : ∃ o, h.order = o := ⟨_, rfl⟩
  rw [ho]
  unfold hwV at HTm HHw ⊢
  unfold hwL at HHw
  rw [ho] at HTm HHw ⊢
  clear ho
  go_enter Tryz.func20, Tryz.ntmps20
  go_upto_region 1 with fail
  obtain ⟨w1, hw1⟩ : ∃ w1, w.alloc (.cells #[.int .i64 h.form, .int .i64 h.most, .int .i64 o, .bool h.rev, .bool h.dirs, .int .i64 h.clock, .int .i64 h.quote, .bool h.mark, .bool h.inode, .bool h.blocks, .int .i64 h.style, .string h.own, .int .i64 h.now, .int .i64 h.offset] 25) = w1 := ⟨_, rfl⟩
  have HB1 := Lib.hid (show Below w.heap.size w w1 from by rw [← hw1]; exact (Below.refl _ _).alloc (Nat.le_refl _) _)
  have HX1 := Lib.hid (show w1.heap[w.heap.size]? = some (.cells #[.int .i64 h.form, .int .i64 h.most, .int .i64 o, .bool h.rev, .bool h.dirs, .int .i64 h.clock, .int .i64 h.quote, .bool h.mark, .bool h.inode, .bool h.blocks, .int .i64 h.style, .string h.own, .int .i64 h.now, .int .i64 h.offset] 25) from by rw [← hw1]; exact heap_alloc_new _ _)
  rw [hw1]
  clear hw1
  obtain ⟨B0, hB0⟩ : ∃ B0, w.heap.size = B0 := ⟨_, rfl⟩
  rw [hB0] at HX1 ⊢
  go_wp2_with fail
  refine (HIt.out _ HB1.out).mono ?_
  rintro e w2 ⟨fv, rfl, hof, hb2⟩
  have HOf := Lib.hid hof
  have HB2 := Lib.hid (below_two HB1.out hb2)
  have HX2 := Lib.hid ((hb2.block _ (heap_lt HX1.out)).trans HX1.out)
  obtain ⟨fa, fc, hfv⟩ := owns_form hof
  subst hfv
  have HL1 := Lib.hid HB1.out.size
  clear hof hb2 HB1 HX1 HIt
  generalize hT : thereL M l = T at HOf HTz hTl ⊢
  have HT := Lib.hid hT
  clear hT
  have c2 : w2.cell? ⟨B0, 2, none⟩ = some (.int .i64 o) := by rw [cell_of_row _ _ _ _ _ _ HX2.out]; rfl
  by_cases hno : o < 0 ∨ 4 < o
  · have HS := Lib.hid (show SortedI M o h.rev h.dirs h.clock l T from ⟨fun _ => HT.out.symm, fun q => by omega⟩)
    rcases hno with q | q
    · have d1 : decide (o < 0) = true := decide_eq_true q
      go_wp2_with fail
      go_ret
      exact ⟨_, T, rfl, HS.out, owns_low HOf.out HL1.out, HB2.out⟩
    · have d1 : decide (o < 0) = false := decide_eq_false (by omega)
      have d2 : decide (4 < o) = true := decide_eq_true q
      go_wp2_with fail
      go_ret
      exact ⟨_, T, rfl, HS.out, owns_low HOf.out HL1.out, HB2.out⟩
  have d1 : decide (o < 0) = false := decide_eq_false (by omega)
  have d2 : decide (4 < o) = false := decide_eq_false (by omega)
  have HSo := Lib.hid (show ∀ p, O.Sorted (O.soC o h.rev h.dirs) (keysI M h.clock l) p → SortedI M o h.rev h.dirs h.clock l (pickL T p) from fun p hp => ⟨fun q => absurd q hno, fun _ => ⟨p, hp, by rw [HT.out]⟩⟩)
  have HKl := Lib.hid (show (keysI M h.clock l).length = T.length from by rw [keys_len, HT.out])
  have HKa := Lib.hid (show ∀ (i : Nat) (e : En), T[i]? = some e → (keysI M h.clock l)[i]? = some (keyI M h.clock e) from fun i e he => keysI_at (by rw [HT.out]; exact he))
  clear hno HT
  generalize keysI M h.clock l = K at HKz HSo HKl HKa
  go_upto_region 5 with (at_make; go_loud (refine wpList_make_full _ rfl (.tmp 27) (.tmp 27) 66 rfl w2.heap.size 70 j0 _ 4 Tryz.underlying66 hj0 hy0 hy1 .i64 .i64 _ _ T.length rfl rfl rfl rfl (by rw [hy2]; omega) (by unfold maxLen; omega) (Nat.le_refl _) ?_; intro w3 hown hgrow))
  rw [ky_made] at hown
  have HB3 := Lib.hid ((Below.refl w2.heap.size w2).grown hgrow (Nat.le_refl _) (fun j hj => by cases hj))
  have HO3 := Lib.hid (show w3.ownsRow w2.heap.size 70 4 (.slice (some ⟨w2.heap.size, 0, none⟩) K.length K.length) K.length (cellsC O.kyL (setsL K ky0 0)) from by rw [sets_zero, HKl.out]; exact hown)
  clear hown hgrow c2
  go_wp2_with fail
  go_loopw [31] (KeysRel w2 w2.heap.size K) (fun v _ => T.length - (intOf v).toNat)
  case atStart => exact ⟨0, Nat.zero_le _, rfl, HO3, HB3⟩
  case round =>
    obtain ⟨i, hi, rfl, HO, HBr⟩ := hrel
    have HTe := Lib.hid hTl
    have hKl := HKl.out
    by_cases hlt : i < T.length
    · obtain ⟨en, hen⟩ : ∃ en, T[i]? = some en := ⟨_, List.getElem?_eq_getElem hlt⟩
      obtain ⟨g, cg, hv, _, _⟩ := owns_some HOf.out (show 0 < T.length by omega)
      simp only [Value.slice.injEq] at hv
      obtain ⟨rfl, _, rfl⟩ := hv
      have HRg := Lib.hid (show wr.rangeAt g (i * 16) (itC M en) from by
        obtain ⟨a', c', e1, r1, _, _, _⟩ := RowL.of_owns (itC_len M) (owns_to HOf.out HBr.out)
        simp only [Value.slice.injEq] at e1
        obtain ⟨rfl, _, _⟩ := e1
        obtain ⟨g', o', e2, _, r2⟩ := r1.at_ hen
        simp only [Option.some.injEq, Addr.mk.injEq] at e2
        obtain ⟨rfl, rfl, _⟩ := e2
        rwa [Nat.zero_add] at r2)
      have HKe := Lib.hid (HKa.out i en hen)
      unfold itC itL at HRg
      obtain ⟨nd, hnd⟩ : ∃ nd, V.nvAt M (V.overI M en.2) = nd := ⟨_, rfl⟩
      have HNd := Lib.hid hnd
      rw [hnd] at HRg
      clear hnd hen
      go_upto_region 8 with (refine wpList_load_mid rfl 65 (.tmp 34) rfl g (i * 16) rfl _ _ HRg.out Tryz.underlying65 rfl sizeIt ?_)
      have HA8 := Lib.hid (show Below wr.heap.size wr (wr.alloc (.cells (itL en.1 en.2 (V.overI M en.2) nd).toArray 65)) from (Below.refl _ _).alloc (Nat.le_refl _) _)
      have HX8 := Lib.hid (heap_alloc_new wr (.cells (itL en.1 en.2 (V.overI M en.2) nd).toArray 65))
      unfold itL at HA8 HX8
      generalize wr.alloc (.cells _ 65) = w8 at HA8 HX8 ⊢
      have HB8 := Lib.hid (show Below w2.heap.size w2 w8 from HBr.out.trans (HA8.out.mono HBr.out.size))
      have HO8 := Lib.hid (owns_to HO.out HA8.out)
      have HXh := Lib.hid ((HB8.out.block _ (heap_lt HX2.out)).trans HX2.out)
      have HNe := Lib.hid (show wr.heap.size ≠ w2.heap.size ∧ B0 ≠ w2.heap.size from ⟨by have q : w2.heap.size < wr.heap.size := (HO.out.lt _ rfl).2; omega, by have := heap_lt HX2.out; omega⟩)
      generalize wr.heap.size = B8 at HX8 HNe ⊢
      clear HA8 HRg HO HBr
      have HX8' := Lib.hid HX8.out
      obtain ⟨d, hd⟩ : ∃ d, (nd.kind == 2) = d := ⟨_, rfl⟩
      have HTi := Lib.hid (HTm.out en.1 en.2 (V.overI M en.2) nd)
      have HPt := Lib.hid (show K[i]? = some ⟨en.1, nd.size, clkI nd h.clock, d⟩ from by
        rw [HKe.out]
        unfold keyI
        rw [HNd.out, ← hd]
        congr 2)
      obtain ⟨ct, hct⟩ : ∃ ct, clkI nd h.clock = ct := ⟨_, rfl⟩
      rw [hct] at HTi HPt
      clear hct HTm HKe
      generalize V.overI M en.2 = oi at HX8 HTi
      have hiK : i < K.length := by omega
      refine B.Till.region (z := 1000) (S := fun w' => w'.heap[B8]? = w8.heap[B8]? ∧ w'.heap[B0]? = w8.heap[B0]?) (by kernel_rfl) ⟨rfl, rfl⟩ (fun hHeld => ?_)
      refine B.Till.tk 0 (oi := ⟨some 36, .move (.tmp 8), 66, "list.go:124", #[], none⟩) (.slice (some ⟨w2.heap.size, 0, none⟩) T.length T.length) rfl (fun w0 hS0 => ?_) ?_
      · go_simp
      try simp only [u, lt, l0, ls]
      refine B.Till.tk 1 (oi := ⟨some 37, .move (.tmp 9), 3, "list.go:124", #[], none⟩) (.int .i64 (i : Int)) rfl (fun w0 hS0 => ?_) ?_
      · go_simp
      try simp only [u, lt, l0, ls]
      refine B.Till.tk 2 (oi := ⟨some 38, .fieldAddr 65 (.tmp 10) 0, 0, "list.go:124", #[], none⟩) (.pointer (some ⟨B8, 0, none⟩)) rfl (fun w0 hS0 => ?_) ?_
      · go_simp
      try simp only [u, lt, l0, ls]
      refine B.Till.tk 3 (oi := ⟨some 39, .fieldAddr 46 (.tmp 38) 0, 0, "list.go:124", #[⟨2, .data⟩], none⟩) (.pointer (some ⟨B8, 0, none⟩)) rfl (fun w0 hS0 => ?_) ?_
      · go_simp
      try simp only [u, lt, l0, ls]
      refine B.Till.tk 4 (oi := ⟨some 40, .load 9 (.tmp 39), 9, "list.go:124", #[⟨3, .data⟩], none⟩) (.string en.1) rfl (fun w0 hS0 => ?_) ?_
      · have b8 : w0.cell? ⟨B8, 0, none⟩ = some (.string en.1) := by rw [cell_of_row _ _ _ _ _ _ (hS0.1.trans HX8.out)]; rfl
        go_simp
      try simp only [u, lt, l0, ls]
      refine B.Till.tk 5 (oi := ⟨some 41, .fieldAddr 65 (.tmp 10) 2, 0, "list.go:124", #[], none⟩) (.pointer (some ⟨B8, 3, none⟩)) rfl (fun w0 hS0 => ?_) ?_
      · go_simp
      try simp only [u, lt, l0, ls]
      refine B.Till.tk 6 (oi := ⟨some 42, .fieldAddr 63 (.tmp 41) 6, 0, "list.go:124", #[⟨5, .data⟩], none⟩) (.pointer (some ⟨B8, 9, none⟩)) rfl (fun w0 hS0 => ?_) ?_
      · go_simp
      try simp only [u, lt, l0, ls]
      refine B.Till.tk 7 (oi := ⟨some 43, .load 2 (.tmp 42), 2, "list.go:124", #[⟨6, .data⟩], none⟩) (.int .i64 nd.size) rfl (fun w0 hS0 => ?_) ?_
      · have b8 : w0.cell? ⟨B8, 9, none⟩ = some (.int .i64 nd.size) := by rw [cell_of_row _ _ _ _ _ _ (hS0.1.trans HX8.out)]; rfl
        go_simp
      try simp only [u, lt, l0, ls]
      refine B.Till.takeA (i := 8) (oi := ⟨some 44, .load 65 (.tmp 10), 65, "list.go:124", #[], none⟩) (v := .agg #[.string en.1, .int .i64 en.2, .int .i64 oi, .int .i64 nd.dev, .int .i64 nd.ino, .int .i64 nd.kind, .int .i64 nd.mode, .int .i64 nd.uid, .int .i64 nd.gid, .int .i64 nd.size, .int .i64 nd.blocks, .int .i64 nd.links, .int .i64 nd.ta, .int .i64 nd.tb, .int .i64 nd.tc, .string nd.target]) rfl (by kernel_rfl) (by kernel_rfl) (by kernel_rfl) (by kernel_rfl) (fun _ _ _ h => h) (yieldsIf_load_mid (by rfl) 65 (.tmp 10) rfl B8 0 rfl [.string en.1, .int .i64 en.2, .int .i64 oi, .int .i64 nd.dev, .int .i64 nd.ino, .int .i64 nd.kind, .int .i64 nd.mode, .int .i64 nd.uid, .int .i64 nd.gid, .int .i64 nd.size, .int .i64 nd.blocks, .int .i64 nd.links, .int .i64 nd.ta, .int .i64 nd.tb, .int .i64 nd.tc, .string nd.target] _ (fun w0 hS0 => range_of (hS0.1.trans HX8.out)) Tryz.underlying65 rfl sizeIt) (by assumption) ?_
      try simp only [u, lt, l0, ls]
      refine B.Till.takeA (i := 9) (oi := ⟨some 45, .load 25 (.tmp 5), 25, "list.go:124", #[], none⟩) (v := .agg #[.int .i64 h.form, .int .i64 h.most, .int .i64 o, .bool h.rev, .bool h.dirs, .int .i64 h.clock, .int .i64 h.quote, .bool h.mark, .bool h.inode, .bool h.blocks, .int .i64 h.style, .string h.own, .int .i64 h.now, .int .i64 h.offset]) rfl (by kernel_rfl) (by kernel_rfl) (by kernel_rfl) (by kernel_rfl) (fun _ _ _ h => h) (yieldsIf_load_mid (by rfl) 25 (.tmp 5) rfl B0 0 rfl [.int .i64 h.form, .int .i64 h.most, .int .i64 o, .bool h.rev, .bool h.dirs, .int .i64 h.clock, .int .i64 h.quote, .bool h.mark, .bool h.inode, .bool h.blocks, .int .i64 h.style, .string h.own, .int .i64 h.now, .int .i64 h.offset] _ (fun w0 hS0 => range_of (hS0.2.trans HXh.out)) Tryz.underlying25 rfl sizeHw) (by assumption) ?_
      try simp only [u, lt, l0, ls]
      refine B.Till.tk 11 (oi := ⟨some 47, .fieldAddr 65 (.tmp 10) 2, 0, "list.go:124", #[], none⟩) (.pointer (some ⟨B8, 3, none⟩)) rfl (fun w0 hS0 => ?_) ?_
      · go_simp
      try simp only [u, lt, l0, ls]
      refine B.Till.tk 12 (oi := ⟨some 48, .fieldAddr 63 (.tmp 47) 2, 0, "list.go:124", #[⟨11, .data⟩], none⟩) (.pointer (some ⟨B8, 5, none⟩)) rfl (fun w0 hS0 => ?_) ?_
      · go_simp
      try simp only [u, lt, l0, ls]
      refine B.Till.tk 13 (oi := ⟨some 49, .load 3 (.tmp 48), 3, "list.go:124", #[⟨12, .data⟩], none⟩) (.int .i64 nd.kind) rfl (fun w0 hS0 => ?_) ?_
      · have b8 : w0.cell? ⟨B8, 5, none⟩ = some (.int .i64 nd.kind) := by rw [cell_of_row _ _ _ _ _ _ (hS0.1.trans HX8.out)]; rfl
        go_simp
      try simp only [u, lt, l0, ls]
      refine B.Till.tk 14 (oi := ⟨some 50, .binOp .eql 3 (.tmp 49) (.const (.int .i64 2)) 3, 4, "list.go:124", #[⟨13, .data⟩], none⟩) (.bool d) rfl (fun w0 hS0 => ?_) ?_
      · go_simp
      try simp only [u, lt, l0, ls]
      refine B.Till.tn 10 rfl fun K hK => ?_
      go_simp
      refine (HTi.out _).mono ?_
      rintro e w9 ⟨rfl, hb9⟩
      have HB9 := Lib.hid (show Below w8.heap.size w8.drew w9 from hb9)
      have HO9 := Lib.hid (owns_to (World.ownsRow.drew HO8.out) hb9)
      have hS9 : w9.heap[B8]? = w8.heap[B8]? ∧ w9.heap[B0]? = w8.heap[B0]? := ⟨hb9.block _ (heap_lt HX8.out), hb9.block _ (heap_lt HXh.out)⟩
      clear hb9
      go_wp2_with fail
      refine hK.out _ _ (fun _ => hS9) ?_
      clear hK K
      try simp only [u, lt, l0, ls]
      refine B.Till.tk 15 (oi := ⟨some 51, .build 70 #[(0, .tmp 40), (1, .tmp 43), (2, .tmp 46), (3, .tmp 50)], 70, "list.go:124", #[⟨4, .data⟩, ⟨7, .data⟩, ⟨10, .data⟩, ⟨14, .data⟩], none⟩) (.agg #[.string en.1, .int .i64 nd.size, .int .i64 ct, .bool d]) rfl (fun w0 hS0 => ?_) ?_
      · go_simp
      try simp only [u, lt, l0, ls]
      refine B.Till.tk 16 (oi := ⟨some 52, .indexAddr 66 (.tmp 36) (.tmp 37), 0, "list.go:124", #[⟨0, .data⟩, ⟨1, .data⟩, ⟨0, .phase⟩, ⟨1, .phase⟩, ⟨2, .phase⟩, ⟨3, .phase⟩, ⟨4, .phase⟩, ⟨5, .phase⟩, ⟨6, .phase⟩, ⟨7, .phase⟩, ⟨8, .phase⟩, ⟨9, .phase⟩, ⟨10, .phase⟩, ⟨11, .phase⟩, ⟨12, .phase⟩, ⟨13, .phase⟩, ⟨14, .phase⟩, ⟨15, .phase⟩], none⟩) (.pointer (some ⟨w2.heap.size, i * 4, none⟩)) rfl (fun w0 hS0 => ?_) ?_
      · go_simp
      try simp only [u, lt, l0, ls]
      refine B.Till.tn 17 rfl fun K hK => ?_
      refine step_store_mid rfl 70 (.tmp 52) (.tmp 51) rfl w2.heap.size (i * 4) #[.string en.1, .int .i64 nd.size, .int .i64 ct, .bool d] rfl rfl (owns_there kyL_len HO9.out (by rw [sets_len (Nat.le_of_lt hiK)]; exact hiK)) sizeKy (by simp [Value.oneCell']) ?_
      refine hK.out _ _ (fun _ => ⟨(heap_setCells_ne _ HNe.out.1 _ _ _).trans hS9.1, (heap_setCells_ne _ HNe.out.2 _ _ _).trans hS9.2⟩) ?_
      clear hK K
      try simp only [u, lt, l0, ls]
      refine B.Till.done (by kernel_rfl) ?_
      have HB9' := Lib.hid (HB8.out.trans ((show Below w8.heap.size w8 w9 from ⟨HB9.out.os, HB9.out.tape, HB9.out.output, HB9.out.size, HB9.out.block⟩).mono HB8.out.size))
      have HOn := Lib.hid (show (w9.setCells w2.heap.size (i * 4) (O.kyL ⟨en.1, nd.size, ct, d⟩)).ownsRow w2.heap.size 70 4 (.slice (some ⟨w2.heap.size, 0, none⟩) K.length K.length) K.length (cellsC O.kyL (setsL K ky0 (i + 1))) from by
        have := owns_put kyL_len HO9.out (i := i) (by rw [sets_len (Nat.le_of_lt hiK)]; exact hiK) ⟨en.1, nd.size, ct, d⟩
        rwa [sets_step HPt.out] at this)
      have HBn := Lib.hid (below_cells w2.heap.size (Nat.le_refl _) (O.kyL ⟨en.1, nd.size, ct, d⟩) (i * 4) w9 HB9'.out)
      unfold O.kyL at HOn HBn
      go_wp2_with fail
      go_roundw
      case rel => exact ⟨i + 1, by omega, by simp, HOn, HBn⟩
      case measure => simp [intOf]; omega
    · obtain rfl : i = T.length := by omega
      obtain ⟨wk, rfl⟩ : ∃ wk, wk = wr := ⟨_, rfl⟩
      have e1 : decide (((T.length : Nat) : Int) < ((T.length : Nat) : Int)) = false := decide_eq_false (by omega)
      rw [← HKl.out, sets_all] at HO
      have HIk := Lib.hid (show ∀ W, Below wk.heap.size wk W → O.IsKeys W (some ⟨w2.heap.size, 0, none⟩) K from fun W hb => by
        obtain ⟨a', c', e1, r1, _, _, _⟩ := RowL.of_owns kyL_len (owns_to HO.out hb)
        simp only [Value.slice.injEq] at e1
        obtain ⟨rfl, _, _⟩ := e1
        exact r1)
      have HSrt := Lib.hid (show ∀ W, Below wk.heap.size wk W → Calls Tryz.prog 43 #[.int .i64 o, .bool h.rev, .bool h.dirs, .slice (some ⟨w2.heap.size, 0, none⟩) T.length T.length] W fun e w' => ∃ v p, e = .returned v ∧ O.Sorted (O.soC o h.rev h.dirs) K p ∧ w'.ownsRow W.heap.size 3 1 v T.length (O.ints (p.map fun i : Nat => (i : Int))) ∧ Below W.heap.size W w' from fun W hb => by
        have := O.osort_any o h.rev h.dirs K (some ⟨w2.heap.size, 0, none⟩) K.length W trivial (HIk.out W hb) (by omega) HKz.out
        rwa [HKl.out] at this)
      have HXh := Lib.hid ((HBr.out.block _ (heap_lt HX2.out)).trans HX2.out)
      have HOk := Lib.hid (owns_to HOf.out HBr.out)
      have HBk := Lib.hid (HB2.out.trans (HBr.out.mono HB2.out.size))
      clear HO HIk HBr HX2 HOf HB2 HTm HHw HO3 HB3 HKz HKa
      generalize w2.heap.size = gk at HSrt ⊢
      go_upto_region 11 with (at_make; go_loud (refine wpList_make_own _ rfl (.const (.int .i64 0)) (.tmp 55) 59 rfl wk.heap.size 65 i0 _ 16 Tryz.underlying59 hi0 hz0 hz1 .i64 .i64 _ T.length rfl rfl rfl (by rw [hz2]; omega) (by unfold maxLen; omega) (Nat.le_refl _) ?_; intro w4 hown hgrow))
      have HO4 := Lib.hid hown
      have HB4 := Lib.hid ((Below.refl wk.heap.size wk).grown hgrow (Nat.le_refl _) (fun j hj => by cases hj))
      clear hown hgrow
      have HX4 := Lib.hid ((HB4.out.block _ (heap_lt HXh.out)).trans HXh.out)
      have c2 : w4.cell? ⟨B0, 2, none⟩ = some (.int .i64 o) := by rw [cell_of_row _ _ _ _ _ _ HX4.out]; rfl
      have c3 : w4.cell? ⟨B0, 3, none⟩ = some (.bool h.rev) := by rw [cell_of_row _ _ _ _ _ _ HX4.out]; rfl
      have c4 : w4.cell? ⟨B0, 4, none⟩ = some (.bool h.dirs) := by rw [cell_of_row _ _ _ _ _ _ HX4.out]; rfl
      go_wp2_with fail
      refine (HSrt.out _ HB4.out).mono ?_
      rintro e w5 ⟨pv, p, rfl, hp, hop, hb5⟩
      have HSp := Lib.hid (HSo.out p hp)
      have hpl : p.length = T.length := (O.SortP.length hp).trans HKl.out
      have HPl := Lib.hid (show ∀ i ∈ p, i < T.length from fun i hi => by rw [← HKl.out]; exact O.SortP.lt hp hi)
      have HO5 := Lib.hid (owns_to HO4.out hb5)
      have HB5 := Lib.hid (HB4.out.trans (hb5.mono HB4.out.size))
      have HP5 := Lib.hid (show w5.ownsRow w4.heap.size 3 1 pv T.length (O.ints (p.map fun i : Nat => (i : Int))) from hop)
      obtain ⟨pa, pc, hpv⟩ := owns_form hop
      subst hpv
      clear hp hop hb5 HO4 HB4 HSrt HSo c2 c3 c4 HX4 HXh HKl
      generalize w4.heap.size = bp at HP5
      go_wp2_with fail
      go_loopw [11, 66] (ToldRel M T p w wk w5 bp (.slice pa T.length pc)) (fun _ v _ => T.length - (intOf v).toNat)
      case atStart => exact ⟨0, Nat.zero_le _, rfl, HO5, HP5, HB5⟩
      case round =>
        obtain ⟨j, hj, rfl, HO, HP, HB⟩ := hrel
        have HHpl := Lib.hid hpl
        by_cases hjt : j < T.length
        · obtain ⟨k, hk⟩ : ∃ k, p[j]? = some k := ⟨_, List.getElem?_eq_getElem (by omega)⟩
          have hkT := HPl.out k (List.mem_of_getElem? hk)
          obtain ⟨en, hen⟩ : ∃ en, T[k]? = some en := ⟨_, List.getElem?_eq_getElem hkT⟩
          obtain ⟨g, cg, hv, _, _⟩ := owns_some HOk.out (show 0 < T.length by omega)
          simp only [Value.slice.injEq] at hv
          obtain ⟨rfl, _, rfl⟩ := hv
          obtain ⟨gp, cp, hv, _, _⟩ := owns_some HP.out (show 0 < T.length by omega)
          simp only [Value.slice.injEq] at hv
          obtain ⟨rfl, _, rfl⟩ := hv
          have p0 : wr.cell? ⟨gp, j, none⟩ = some (.int .i64 (k : Int)) := owns_cell HP.out (by unfold O.ints; rw [List.getElem?_map, List.getElem?_map, hk]; rfl)
          have HRg := Lib.hid (show wr.rangeAt g (k * 16) (itC M en) from by
            obtain ⟨a', c', e1, r1, _, _, _⟩ := RowL.of_owns (itC_len M) (owns_to HOk.out HB.out)
            simp only [Value.slice.injEq] at e1
            obtain ⟨rfl, _, _⟩ := e1
            obtain ⟨g', o', e2, _, r2⟩ := r1.at_ hen
            simp only [Option.some.injEq, Addr.mk.injEq] at e2
            obtain ⟨rfl, rfl, _⟩ := e2
            rwa [Nat.zero_add] at r2)
          have HPk := Lib.hid (show pickL T (p.take (j + 1)) = pickL T (p.take j) ++ [en] from by rw [take_nat hk]; exact pick_snoc hen)
          have HPn := Lib.hid (show (pickL T (p.take j)).length = j from by rw [pick_len (fun i hi => HPl.out i (List.mem_of_mem_take hi)), List.length_take]; omega)
          clear hk hen
          obtain ⟨nd, hnd⟩ : ∃ nd, V.nvAt M (V.overI M en.2) = nd := ⟨_, rfl⟩
          have HNd := Lib.hid hnd
          unfold itC itL at HRg
          rw [hnd] at HRg
          clear hnd
          go_wp2_with (first
            | (refine wpList_load_mid rfl 65 (.tmp 73) rfl g (k * 16) rfl _ _ HRg.out Tryz.underlying65 rfl sizeIt ?_)
            | (at_builtin; go_loud (refine wpList_append_lies _ rfl (.tmp 70) (.tmp 75) 59 rfl wk.heap.size 65 i0 _ 16 144 Tryz.underlying59 hi0 hz0 hz1 hz2 rfl (by decide) _ _ _ rfl (owns_to HO.out ((Below.refl _ _).alloc (Nat.le_refl _) _)) ⟨wr.heap.size, 0, none⟩ 1 1 (itL en.1 en.2 (V.overI M en.2) nd) rfl rfl (World.news_of_block (heap_alloc_new _ _)) (itL_one _ _ _ _) (by decide) (by unfold maxLen; omega) (by omega) (HB.out.alloc HB.out.size _).size _ rfl ?_; intro g1 cap1 w8 hown hgrow hat hlt1; have HO8 := Lib.hid hown; have HP8 := Lib.hid ((owns_to HP.out ((Below.refl _ _).alloc (Nat.le_refl _) _)).kept hgrow (owns_apart HP.out HO.out (by decide))); have HB8 := Lib.hid ((HB.out.alloc HB.out.size _).grown hgrow (HB.out.alloc HB.out.size _).size (fun k e => (HO.out.lt k e).1)); clear hown hgrow hat hlt1)))
          go_roundw
          case rel => exact ⟨j + 1, by omega, by simp, Lib.hid (by rw [HPk.out, cellsC_app, cellsC_one]; unfold itC; rw [HNd.out]; exact HO8.out), HP8, HB8⟩
          case measure => simp [intOf]; omega
        · obtain rfl : j = T.length := by omega
          have e1 : decide (((T.length : Nat) : Int) < ((T.length : Nat) : Int)) = false := decide_eq_false (by omega)
          rw [show p.take T.length = p from by rw [← hpl]; exact List.take_length] at HO
          have HLn := Lib.hid (show (pickL T p).length = T.length from by rw [pick_len HPl.out]; exact hpl)
          go_wp2_with fail
          go_ret
          exact ⟨_, pickL T p, rfl, HSp.out, by rw [HLn.out]; exact owns_low HO.out HBk.out.size, HBk.out.trans (HB.out.mono HBk.out.size)⟩
end Go.Proofs.YtfhagjnlliafiaaGreatDoor.I
