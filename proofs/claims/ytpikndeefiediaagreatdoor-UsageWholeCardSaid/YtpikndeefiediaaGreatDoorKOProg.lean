/-
  What the program's Sort returns: the places of all keys, sorted. Conditions: the keys lie in memory, at most 1000 of them, with names of at most 60000 bytes.
  What the program's functions of layer 10 return, in one place. Conditions: names of at most 60000 bytes, at most 1000 keys, which lie in memory.
-/
import Derived.Test.YtpikndeefiediaaGreatDoorKOArr
import Derived.Laws.EntriesVeiled
set_option linter.unusedVariables false
namespace Go.Proofs.YtpikndeefiediaaGreatDoor.O
open Go.Proofs.YtpikndeefiediaaGreatDoor.B
open Go.RowKit

theorem Box.new (w : World) (v : Value) (t : TypeId) : Box (w.alloc (.cells #[v] t)) w.heap.size v := ⟨t, heap_alloc_new w _⟩
theorem Box.next {w : World} {k : Nat} {v : Value} (h : Box w k v) (o : Obj) : Box (w.alloc o) k v := h.keep ((Below.refl _ _).alloc (Nat.le_refl _) _)
theorem four_boxes (w : World) (u0 u1 u2 u3 : Value) (t0 t1 t2 t3 : TypeId) :
    Box ((((w.alloc (.cells #[u0] t0)).alloc (.cells #[u1] t1)).alloc (.cells #[u2] t2)).alloc (.cells #[u3] t3)) w.heap.size u0 ∧ Box ((((w.alloc (.cells #[u0] t0)).alloc (.cells #[u1] t1)).alloc (.cells #[u2] t2)).alloc (.cells #[u3] t3)) (w.heap.size + 1) u1 ∧
    Box ((((w.alloc (.cells #[u0] t0)).alloc (.cells #[u1] t1)).alloc (.cells #[u2] t2)).alloc (.cells #[u3] t3)) (w.heap.size + 1 + 1) u2 ∧ Box ((((w.alloc (.cells #[u0] t0)).alloc (.cells #[u1] t1)).alloc (.cells #[u2] t2)).alloc (.cells #[u3] t3)) (w.heap.size + 1 + 1 + 1) u3 ∧
    ((((w.alloc (.cells #[u0] t0)).alloc (.cells #[u1] t1)).alloc (.cells #[u2] t2)).alloc (.cells #[u3] t3)).heap.size = w.heap.size + 1 + 1 + 1 + 1 ∧
    Below w.heap.size w ((((w.alloc (.cells #[u0] t0)).alloc (.cells #[u1] t1)).alloc (.cells #[u2] t2)).alloc (.cells #[u3] t3)) := by
  have s1 : (w.alloc (.cells #[u0] t0)).heap.size = w.heap.size + 1 := by simp
  have s2 : ((w.alloc (.cells #[u0] t0)).alloc (.cells #[u1] t1)).heap.size = w.heap.size + 1 + 1 := by simp
  have s3 : (((w.alloc (.cells #[u0] t0)).alloc (.cells #[u1] t1)).alloc (.cells #[u2] t2)).heap.size = w.heap.size + 1 + 1 + 1 := by simp
  refine ⟨((Box.new w u0 t0).next _ |>.next _).next _, ?_, ?_, ?_, by simp, ((((Below.refl _ _).alloc (Nat.le_refl _) _).alloc (by simp) _).alloc (by simp; omega) _).alloc (by simp; omega) _⟩
  · have := ((Box.new (w.alloc (.cells #[u0] t0)) u1 t1).next (.cells #[u2] t2)).next (.cells #[u3] t3)
    rwa [s1] at this
  · have := (Box.new ((w.alloc (.cells #[u0] t0)).alloc (.cells #[u1] t1)) u2 t2).next (.cells #[u3] t3)
    rwa [s2] at this
  · have := Box.new (((w.alloc (.cells #[u0] t0)).alloc (.cells #[u1] t1)).alloc (.cells #[u2] t2)) u3 t3
    rwa [s3] at this
/-- A row that the call has made, whole. -/
theorem row_of {w : World} {base : Nat} {e : TypeId} {g n : Nat} {xs : List Value} (h : w.ownsRow base e 1 (.slice (some ⟨g, 0, none⟩) n n) n xs) : w.heap[g]? = some (.cells xs.toArray e (0, 0)) := by
  obtain ⟨hl, h⟩ := h
  rcases h with ⟨h, _⟩ | ⟨g', cap', cur, hv, hb, hg, hnc, hcm, hcs, ht⟩
  · cases h
  · simp only [Value.slice.injEq, Option.some.injEq, Addr.mk.injEq] at hv
    obtain ⟨⟨rfl, _, _⟩, _, rfl⟩ := hv
    rw [Nat.mul_one] at hcs ht
    rw [List.take_of_length_le (by rw [Array.length_toList, hcs]; exact Nat.le_refl _)] at ht
    rw [hg, ← ht]
theorem row_owns {w : World} {base : Nat} {e : TypeId} {g n : Nat} {xs : List Value} (hb : base ≤ g) (hg : w.heap[g]? = some (.cells xs.toArray e (0, 0))) (hn : xs.length = n) (hm : n ≤ maxLen) : w.ownsRow base e 1 (.slice (some ⟨g, 0, none⟩) n n) n xs := by
  refine ⟨by rw [Nat.mul_one]; exact hn, .inr ⟨g, n, xs.toArray, rfl, hb, hg, Nat.le_refl _, hm, by rw [List.size_toArray, Nat.mul_one]; exact hn, ?_⟩⟩
  rw [Nat.mul_one]
  exact List.take_of_length_le (Nat.le_of_eq hn)
theorem made_zeros (n : Nat) : (madeCells (Value.int .i64 0).cells (n * 1)).toList = natsV (List.replicate n 0) := by
  have : (Value.int .i64 0).cells = #[.int .i64 0] := rfl
  rw [this, toList_madeCells_one, Nat.mul_one]
  unfold natsV
  rw [List.map_replicate]
  rfl
def initL (i n : Nat) : List Nat := List.range i ++ List.replicate (n - i) 0
theorem init_at {i n : Nat} (h : i < n) : (initL i n)[i]? = some 0 := by
  unfold initL
  rw [List.getElem?_append_right (by rw [List.length_range]; exact Nat.le_refl _), List.length_range, Nat.sub_self, List.getElem?_replicate, if_pos (by omega)]
theorem init_step {i n : Nat} (h : i < n) : (initL i n).set i i = initL (i + 1) n := by
  unfold initL
  obtain ⟨k, rfl⟩ : ∃ k, n = i + 1 + k := ⟨n - (i + 1), by omega⟩
  rw [show i + 1 + k - i = k + 1 by omega, show i + 1 + k - (i + 1) = k by omega, List.replicate_succ, List.set_append_right _ _ (by rw [List.length_range]; exact Nat.le_refl _), List.length_range, Nat.sub_self, List.set_cons_zero, List.range_succ, List.append_assoc]
  rfl
theorem init_end (n : Nat) : initL n n = List.range n := by
  unfold initL
  rw [Nat.sub_self]
  exact List.append_nil _
/-- Boxes and rows of places that lie in memory. -/
structure Mem (L : List (Nat × Value)) (R : List (Nat × List Nat)) (W : World) : Prop where
  box : ∀ p ∈ L, Box W p.1 p.2
  row : ∀ p ∈ R, W.heap[p.1]? = some (.cells (natsV p.2).toArray 3 (0, 0))
theorem Mem.keep {L : List (Nat × Value)} {R : List (Nat × List Nat)} {W W' : World} (h : Mem L R W) (hb : Below W.heap.size W W') : Mem L R W' :=
  ⟨fun p hp => (h.box p hp).keep hb, fun p hp => (hb.block _ (heap_lt (h.row p hp))).trans (h.row p hp)⟩
theorem Mem.more {L : List (Nat × Value)} {R : List (Nat × List Nat)} {W W' : World} (h : Mem L R W) (hb : Below W.heap.size W W') {k : Nat} {v : Value} (hv : Box W' k v) : Mem ((k, v) :: L) R W' :=
  ⟨fun p hp => by
    rcases List.mem_cons.1 hp with rfl | hp
    · exact hv
    · exact (h.keep hb).box p hp, (h.keep hb).row⟩
theorem Mem.moreR {L : List (Nat × Value)} {R : List (Nat × List Nat)} {W W' : World} (h : Mem L R W) (hb : Below W.heap.size W W') {g : Nat} {Z : List Nat} (hg : W'.heap[g]? = some (.cells (natsV Z).toArray 3 (0, 0))) : Mem L ((g, Z) :: R) W' :=
  ⟨(h.keep hb).box, fun p hp => by
    rcases List.mem_cons.1 hp with rfl | hp
    · exact hg
    · exact (h.keep hb).row p hp⟩
theorem mem_four {W : World} {k0 k1 k2 k3 : Nat} {v0 v1 v2 v3 : Value} (h : Box W k0 v0 ∧ Box W k1 v1 ∧ Box W k2 v2 ∧ Box W k3 v3) : Mem [(k3, v3), (k2, v2), (k1, v1), (k0, v0)] [] W := by
  refine ⟨fun p hp => ?_, fun p hp => by cases hp⟩
  simp only [List.mem_cons, List.not_mem_nil, or_false] at hp
  rcases hp with rfl | rfl | rfl | rfl
  · exact h.2.2.2
  · exact h.2.2.1
  · exact h.2.1
  · exact h.1
theorem Mem.set1 {L : List (Nat × Value)} {g : Nat} {Z : List Nat} {W : World} (h : Mem L [(g, Z)] W) (hne : ∀ p ∈ L, p.1 ≠ g) (j v : Nat) : Mem L [(g, Z.set j v)] (W.setCell ⟨g, j, none⟩ (.int .i64 (v : Int))) := by
  refine ⟨fun p hp => (h.box p hp).at_ (heap_setCell_other _ _ _ _ (hne p hp)), fun p hp => ?_⟩
  obtain rfl := List.mem_singleton.1 hp
  have e : W.heap[g]? = some (.cells (natsV Z).toArray 3 (0, 0)) := h.row (g, Z) (List.mem_singleton.2 rfl)
  show (W.setCell ⟨g, j, none⟩ (.int .i64 (v : Int))).heap[g]? = some (.cells (natsV (Z.set j v)).toArray 3 (0, 0))
  rw [heap_setCell_same _ _ _ _ _ _ e]
  congr 2
  unfold natsV
  rw [List.setIfInBounds_toArray, List.map_set]
theorem Mem.at1 {L : List (Nat × Value)} {g : Nat} {Z : List Nat} {W : World} (h : Mem L [(g, Z)] W) {j x : Nat} (hj : Z[j]? = some x) : W.cell? ⟨g, j, none⟩ = some (.int .i64 (x : Int)) ∧ W.frozen? ⟨g, j, none⟩ = false := by
  have e : W.heap[g]? = some (.cells (natsV Z).toArray 3 (0, 0)) := h.row (g, Z) (List.mem_singleton.2 rfl)
  refine ⟨?_, frozen_of_row _ _ _ _ _ e⟩
  rw [cell_of_row _ _ _ _ _ _ e, List.getElem?_toArray]
  exact natsV_get hj
def InitRel (n gp bp : Nat) (L : List (Nat × Value)) (w : World) (v : Value) (wr : World) : Prop :=
  ∃ i : Nat, v = .int .i64 (i : Int) ∧ i ≤ n ∧ Hid (Mem L [(gp, initL i n)] wr) ∧ Hid (Below w.heap.size w wr)
def sortCfg (w : World) (o : Int) (rev dirs : Bool) (l : List Ky) (a : Option Addr) (cap b1 b2 b3 gp bp bc gs bs ba : Nat) : Cfg :=
  { w0 := w, o := o, rev := rev, dirs := dirs, l := l, a := a, cap := cap, bo := w.heap.size, br := b1, bd := b2, bl := b3, gp := gp, bp := bp, bc := bc, gs := gs, bs := bs, ba := ba }
theorem sort_ready (w : World) (o : Int) (rev dirs : Bool) (l : List Ky) (a : Option Addr) (cap b1 b2 b3 gp bp bc gs bs ba : Nat) (W : World)
    (h1 : w.heap.size < gp ∧ b1 < gp ∧ b2 < gp ∧ b3 < gp) (h2 : gp < bp ∧ bp < bc ∧ bc < gs ∧ gs < bs ∧ bs < ba) (H : IsKeys w a l) (hl : l.length ≤ 1000) (hz : ∀ c ∈ l, c.name.size ≤ 60000)
    (HM : Mem [(ba, .func (.func 82) #[] #[.pointer (some ⟨ba, 0, none⟩), .pointer (some ⟨bs, 0, none⟩), .pointer (some ⟨bp, 0, none⟩), .pointer (some ⟨bc, 0, none⟩)]),
      (bs, .slice (some ⟨gs, 0, none⟩) l.length l.length),
      (bc, .func (.func 80) #[] #[.pointer (some ⟨w.heap.size, 0, none⟩), .pointer (some ⟨b1, 0, none⟩), .pointer (some ⟨b2, 0, none⟩), .pointer (some ⟨b3, 0, none⟩)]),
      (bp, .slice (some ⟨gp, 0, none⟩) l.length l.length), (b3, .slice a l.length cap), (b2, .bool dirs), (b1, .bool rev), (w.heap.size, .int .i64 o)] [(gs, List.replicate l.length 0), (gp, List.range l.length)] W)
    (HB : Below w.heap.size w W) : CfgOK (sortCfg w o rev dirs l a cap b1 b2 b3 gp bp bc gs bs ba) ∧ SI (sortCfg w o rev dirs l a cap b1 b2 b3 gp bp bc gs bs ba) (List.range l.length) (List.replicate l.length 0) W := by
  obtain ⟨q1, q2, q3, q4⟩ := h1
  obtain ⟨q5, q6, q7, q8, q9⟩ := h2
  refine ⟨⟨?_, ?_, ?_, ?_, ?_, H, hl, hz⟩, ⟨HB, ?_, ?_, ?_, ?_, ?_, ?_, ?_, ?_, ?_, ?_, List.length_range, List.length_replicate⟩⟩
  · show gp ≠ gs; omega
  · show w.heap.size ≠ gp ∧ b1 ≠ gp ∧ b2 ≠ gp ∧ b3 ≠ gp ∧ bp ≠ gp ∧ bc ≠ gp ∧ bs ≠ gp ∧ ba ≠ gp; omega
  · show w.heap.size ≠ gs ∧ b1 ≠ gs ∧ b2 ≠ gs ∧ b3 ≠ gs ∧ bp ≠ gs ∧ bc ≠ gs ∧ bs ≠ gs ∧ ba ≠ gs; omega
  · show w.heap.size ≤ gp; omega
  · show w.heap.size ≤ gs; omega
  · exact HM.box (w.heap.size, _) (.tail _ (.tail _ (.tail _ (.tail _ (.tail _ (.tail _ (.tail _ (.head _))))))))
  · exact HM.box (b1, _) (.tail _ (.tail _ (.tail _ (.tail _ (.tail _ (.tail _ (.head _)))))))
  · exact HM.box (b2, _) (.tail _ (.tail _ (.tail _ (.tail _ (.tail _ (.head _))))))
  · exact HM.box (b3, _) (.tail _ (.tail _ (.tail _ (.tail _ (.head _)))))
  · exact HM.box (bp, _) (.tail _ (.tail _ (.tail _ (.head _))))
  · exact HM.box (bc, _) (.tail _ (.tail _ (.head _)))
  · exact HM.box (bs, _) (.tail _ (.head _))
  · exact HM.box (ba, _) (.head _)
  · exact HM.row (gp, _) (.tail _ (.head _))
  · exact HM.row (gs, _) (.head _)
theorem arr_all (C : Cfg) (ok : CfgOK C) (W : World) (h : SI C (List.range C.l.length) (List.replicate C.l.length 0) W) :
    Calls Tryz.prog 82 #[.int .i64 0, .int .i64 (C.l.length : Int), .pointer (some ⟨C.ba, 0, none⟩), .pointer (some ⟨C.bs, 0, none⟩), .pointer (some ⟨C.bp, 0, none⟩), .pointer (some ⟨C.bc, 0, none⟩)] W fun e W' =>
      ∃ v r X', e = .returned v ∧ SortOf (aheadL (soC C.o C.rev C.dirs) C.l) (List.range C.l.length) r ∧ SI C r X' W' := by
  refine (arr_any C ok C.l.length 0 C.l.length (List.range C.l.length) (List.replicate C.l.length 0) W (by omega) (Nat.zero_le _) (Nat.le_refl _) h (fun k _ hk => by rw [List.getElem?_range hk])).mono ?_
  rintro e w7 ⟨v7, r, X, rfl, hso, hsi⟩
  rw [Nat.sub_zero, ← List.range_eq_range'] at hso
  rw [List.take_zero, List.nil_append, List.drop_of_length_le (by rw [List.length_range]; exact Nat.le_refl _), List.append_nil] at hsi
  exact ⟨_, r, X, rfl, hso, hsi⟩
set_option maxRecDepth 100000 in
set_option maxHeartbeats 8000000 in
theorem psort_any (o : Int) (rev dirs : Bool) (l : List Ky) (a : Option Addr) (cap : Nat) (w : World) (H : IsKeys w a l) (hl : l.length ≤ 1000) (hz : ∀ c ∈ l, c.name.size ≤ 60000) :
    Calls Tryz.prog 74 #[.int .i64 o, .bool rev, .bool dirs, .slice a l.length cap] w fun e w' => ∃ v p, e = .returned v ∧ Sorted (soC o rev dirs) l p ∧ w'.ownsRow w.heap.size 3 1 v l.length (ints (p.map fun i : Nat => (i : Int))) ∧ Below w.heap.size w w' := by
  obtain ⟨i0, hi0, hz0, hz1, hz2⟩ := info_parts infoInt
  have HH := Lib.hid H
  have HZ := Lib.hid hz
  clear H hz
  obtain ⟨n, hn⟩ : ∃ n, l.length = n := ⟨_, rfl⟩
  have HN := Lib.hid hn
  rw [hn] at hl ⊢
  clear hn
  go_enter Tryz.func74, Tryz.ntmps74
  go_upto_region 1 with fail
  obtain ⟨X0, X1, X2, X3, XS, XB⟩ := four_boxes w (.int .i64 o) (.bool rev) (.bool dirs) (.slice a n cap) 3 4 4 135
  have HB := Lib.hid XB
  have HX := Lib.hid (And.intro X0 (And.intro X1 (And.intro X2 X3)))
  clear X0 X1 X2 X3 XB
  generalize (((w.alloc (.cells #[.int .i64 o] 3)).alloc (.cells #[.bool rev] 4)).alloc (.cells #[.bool dirs] 4)).alloc (.cells #[.slice a n cap] 135) = wA at HX HB XS ⊢
  have HLt := Lib.hid (show w.heap.size < w.heap.size + 1 + 1 + 1 + 1 ∧ w.heap.size + 1 < w.heap.size + 1 + 1 + 1 + 1 ∧ w.heap.size + 1 + 1 < w.heap.size + 1 + 1 + 1 + 1 ∧ w.heap.size + 1 + 1 + 1 < w.heap.size + 1 + 1 + 1 + 1 from ⟨by omega, by omega, by omega, by omega⟩)
  rw [← XS] at HLt
  generalize w.heap.size + 1 + 1 + 1 = b3 at HX HLt ⊢
  generalize w.heap.size + 1 + 1 = b2 at HX HLt ⊢
  generalize w.heap.size + 1 = b1 at HX HLt ⊢
  clear XS
  have x3 := HX.out.2.2.2.cell
  go_upto_region 2 with (at_make; go_loud (refine wpList_make_full _ rfl (.tmp 15) (.tmp 15) 28 rfl w.heap.size 3 i0 (.int .i64 0) 1 Tryz.underlying28 hi0 hz0 hz1 .i64 .i64 _ _ n rfl rfl rfl rfl (by rw [hz2]; omega) (by unfold maxLen; omega) HB.out.size ?_; intro w1 hown hgrow))
  have hcells := made_zeros n
  rw [hcells] at hown
  have HM1 := Lib.hid (Mem.moreR (mem_four HX.out) ((Below.refl _ _).grown hgrow (Nat.le_refl _) (fun j hj => by cases hj)) (row_of hown))
  have HB1 := Lib.hid (HB.out.grown hgrow HB.out.size (fun j hj => by cases hj))
  have hg1 : wA.heap.size < w1.heap.size := heap_lt (row_of hown)
  clear hown hgrow hcells x3 HX HB
  generalize wA.heap.size = gp at HLt HM1 hg1 ⊢
  have HM2 := Lib.hid (HM1.out.more ((Below.refl _ _).alloc (Nat.le_refl _) (.cells #[.slice (some ⟨gp, 0, none⟩) n n] 28)) (Box.new w1 _ _))
  have HB2 := Lib.hid (HB1.out.alloc HB1.out.size (.cells #[.slice (some ⟨gp, 0, none⟩) n n] 28))
  generalize w1.alloc (.cells #[.slice (some ⟨gp, 0, none⟩) n n] 28) = w2 at HM2 HB2 ⊢
  clear HM1 HB1
  generalize w1.heap.size = bp at hg1 HM2 ⊢
  have c1 : w2.cell? ⟨bp, 0, none⟩ = some (.slice (some ⟨gp, 0, none⟩) n n) := (HM2.out.box _ (List.mem_cons_self)).cell
  have HNe := Lib.hid (show ∀ p ∈ [(bp, Value.slice (some ⟨gp, 0, none⟩) n n), (b3, .slice a n cap), (b2, .bool dirs), (b1, .bool rev), (w.heap.size, .int .i64 o)], p.1 ≠ gp from fun p hp => by
    have q := HLt.out
    simp only [List.mem_cons, List.not_mem_nil, or_false] at hp
    rcases hp with rfl | rfl | rfl | rfl | rfl <;> (simp only []; omega))
  generalize hLL : [(bp, Value.slice (some ⟨gp, 0, none⟩) n n), (b3, .slice a n cap), (b2, .bool dirs), (b1, .bool rev), (w.heap.size, .int .i64 o)] = L2 at HM2 HNe
  have HLL := Lib.hid hLL
  clear hLL
  go_wp2_with fail
  go_loopw [19] (InitRel n gp bp L2 w) (fun v _ => n - (intOf v).toNat)
  case atStart => exact ⟨0, rfl, Nat.zero_le _, HM2, HB2⟩
  case round =>
    obtain ⟨i, rfl, hin, HM, HBi⟩ := hrel
    have c2 : wr.cell? ⟨bp, 0, none⟩ = some (.slice (some ⟨gp, 0, none⟩) n n) := (HM.out.box (bp, _) (by rw [← HLL.out]; exact List.mem_cons_self)).cell
    by_cases hi : i < n
    · have e1 : decide ((i : Int) < (n : Int)) = true := decide_eq_true (by omega)
      obtain ⟨c3, c4⟩ := HM.out.at1 (init_at hi)
      have HMn := Lib.hid (show Mem L2 [(gp, initL (i + 1) n)] (wr.setCell ⟨gp, i, none⟩ (.int .i64 (i : Int))) from by rw [← init_step hi]; exact HM.out.set1 HNe.out i i)
      have HBn := Lib.hid (HBi.out.setCell (p := ⟨gp, i, none⟩) (Nat.le_of_lt HLt.out.1) (.int .i64 (i : Int)))
      go_wp2_with fail
      go_roundw
      case rel => exact ⟨i + 1, by simp, by omega, HMn, HBn⟩
      case measure => simp [intOf]; omega
    · have e1 : decide ((i : Int) < (n : Int)) = false := decide_eq_false (by omega)
      obtain rfl : i = n := by omega
      rw [init_end] at HM
      go_upto_region 8 with fail
      clear c1 c2 HM2 HB2 HNe
      have hbc : bp < wr.heap.size := (HM.out.box (bp, .slice (some ⟨gp, 0, none⟩) i i) (by rw [← HLL.out]; exact List.mem_cons_self)).elim fun _ h => heap_lt h
      have HM3 := Lib.hid (HM.out.more ((Below.refl _ _).alloc (Nat.le_refl _) (.cells #[.func (.func 80) #[] #[.pointer (some ⟨w.heap.size, 0, none⟩), .pointer (some ⟨b1, 0, none⟩), .pointer (some ⟨b2, 0, none⟩), .pointer (some ⟨b3, 0, none⟩)]] 133)) (Box.new wr _ _))
      have HB3 := Lib.hid (HBi.out.alloc HBi.out.size (.cells #[.func (.func 80) #[] #[.pointer (some ⟨w.heap.size, 0, none⟩), .pointer (some ⟨b1, 0, none⟩), .pointer (some ⟨b2, 0, none⟩), .pointer (some ⟨b3, 0, none⟩)]] 133))
      generalize wr.alloc (.cells #[.func (.func 80) #[] #[.pointer (some ⟨w.heap.size, 0, none⟩), .pointer (some ⟨b1, 0, none⟩), .pointer (some ⟨b2, 0, none⟩), .pointer (some ⟨b3, 0, none⟩)]] 133) = w3 at HM3 HB3 ⊢
      clear HM HBi
      generalize wr.heap.size = bc at hbc HM3 ⊢
      have c3 : w3.cell? ⟨b3, 0, none⟩ = some (.slice a i cap) := (HM3.out.box (b3, _) (by rw [← HLL.out]; exact List.mem_cons_of_mem _ (List.mem_cons_of_mem _ (List.mem_cons_self)))).cell
      have hbs : bc < w3.heap.size := (HM3.out.box (bc, _) (List.mem_cons_self)).elim fun _ h => heap_lt h
      go_upto_region 9 with (at_make; go_loud (refine wpList_make_full _ rfl (.tmp 29) (.tmp 29) 28 rfl w.heap.size 3 i0 (.int .i64 0) 1 Tryz.underlying28 hi0 hz0 hz1 .i64 .i64 _ _ i rfl rfl rfl rfl (by rw [hz2]; omega) (by unfold maxLen; omega) HB3.out.size ?_; intro w4 hown hgrow))
      have hcells := made_zeros i
      rw [hcells] at hown
      have HM4 := Lib.hid (HM3.out.moreR ((Below.refl _ _).grown hgrow (Nat.le_refl _) (fun j hj => by cases hj)) (row_of hown))
      have HB4 := Lib.hid (HB3.out.grown hgrow HB3.out.size (fun j hj => by cases hj))
      have hg4 : w3.heap.size < w4.heap.size := heap_lt (row_of hown)
      clear hown hgrow hcells c3 HM3 HB3
      generalize w3.heap.size = gs at hbs HM4 hg4 ⊢
      have HM5 := Lib.hid (HM4.out.more ((Below.refl _ _).alloc (Nat.le_refl _) (.cells #[.slice (some ⟨gs, 0, none⟩) i i] 28)) (Box.new w4 _ _))
      have HB5 := Lib.hid (HB4.out.alloc HB4.out.size (.cells #[.slice (some ⟨gs, 0, none⟩) i i] 28))
      generalize w4.alloc (.cells #[.slice (some ⟨gs, 0, none⟩) i i] 28) = w5 at HM5 HB5 ⊢
      clear HM4 HB4
      generalize w4.heap.size = bs at hg4 HM5 ⊢
      have hba : bs < w5.heap.size := (HM5.out.box (bs, _) (List.mem_cons_self)).elim fun _ h => heap_lt h
      go_upto_region 11 with fail
      have HM6 := Lib.hid (HM5.out.more ((Below.refl _ _).alloc (Nat.le_refl _) (.cells #[.func (.func 82) #[] #[.pointer (some ⟨w5.heap.size, 0, none⟩), .pointer (some ⟨bs, 0, none⟩), .pointer (some ⟨bp, 0, none⟩), .pointer (some ⟨bc, 0, none⟩)]] 142)) (Box.new w5 _ _))
      have HB6 := Lib.hid (HB5.out.alloc HB5.out.size (.cells #[.func (.func 82) #[] #[.pointer (some ⟨w5.heap.size, 0, none⟩), .pointer (some ⟨bs, 0, none⟩), .pointer (some ⟨bp, 0, none⟩), .pointer (some ⟨bc, 0, none⟩)]] 142))
      generalize w5.alloc (.cells #[.func (.func 82) #[] #[.pointer (some ⟨w5.heap.size, 0, none⟩), .pointer (some ⟨bs, 0, none⟩), .pointer (some ⟨bp, 0, none⟩), .pointer (some ⟨bc, 0, none⟩)]] 142) = w6 at HM6 HB6 ⊢
      clear HM5 HB5
      generalize w5.heap.size = ba at hba HM6 ⊢
      obtain rfl := HLL.out
      obtain rfl := HN.out
      have HC := Lib.hid (sort_ready w o rev dirs l a cap b1 b2 b3 gp bp bc gs bs ba w6 HLt.out ⟨hg1, hbc, hbs, hg4, hba⟩ HH.out hl HZ.out HM6.out HB6.out)
      have c1 : w6.cell? ⟨ba, 0, none⟩ = some (.func (.func 82) #[] #[.pointer (some ⟨ba, 0, none⟩), .pointer (some ⟨bs, 0, none⟩), .pointer (some ⟨bp, 0, none⟩), .pointer (some ⟨bc, 0, none⟩)]) := HC.out.2.xa.cell
      have c2 : w6.cell? ⟨bp, 0, none⟩ = some (.slice (some ⟨gp, 0, none⟩) l.length l.length) := HC.out.2.xp.cell
      clear HM6 HB6 HLL HN hin hi e1
      go_wp2_with fail
      refine (arr_all _ HC.out.1 w6 HC.out.2).mono ?_
      rintro e w7 ⟨v7, r, X, rfl, hso, hsi⟩
      have HS7 := Lib.hid hsi
      have HO7 := Lib.hid hso
      clear hso hsi c1 c2 HC
      have c2 : w7.cell? ⟨bp, 0, none⟩ = some (.slice (some ⟨gp, 0, none⟩) l.length l.length) := HS7.out.xp.cell
      go_wp2_with fail
      go_ret
      exact ⟨_, r, rfl, HO7.out.range, by rw [← natsV_ints]; exact row_owns (Nat.le_of_lt HLt.out.1) HS7.out.pl (by rw [natsV_len]; exact HS7.out.lz) (by unfold maxLen; omega), HS7.out.low⟩
end Go.Proofs.YtpikndeefiediaaGreatDoor.O

namespace Go.Proofs.YtpikndeefiediaaGreatDoor.O
open Go.Proofs.YtpikndeefiediaaGreatDoor.B
open Go.RowKit

/-- What the program's functions lean on of the package-level variables: nothing. -/
def PT (w : World) : Prop := True
theorem PT.keep {w w' : World} (h : PT w) (hb : Below w.heap.size w w') : PT w' := h
theorem tab_of {P Q : Prop} {W : World} (h : P) (h2 : Q) : PT W := trivial
theorem over_any (a b : ByteArray) (w : World) (hp : PT w) (ha : a.size ≤ 60000) (hb : b.size ≤ 60000) :
    Calls Tryz.prog 97 #[.string a, .string b] w fun e w' => e = .returned (.int .i64 (verL a.data.toList b.data.toList)) ∧ Below w.heap.size w w' := over_any' a b w ha hb
theorem osort_any (o : Int) (rev dirs : Bool) (l : List Ky) (a : Option Addr) (cap : Nat) (w : World) (hp : PT w) (H : IsKeys w a l) (hl : l.length ≤ 1000) (hz : ∀ c ∈ l, c.name.size ≤ 60000) :
    Calls Tryz.prog 74 #[.int .i64 o, .bool rev, .bool dirs, .slice a l.length cap] w fun e w' => ∃ v p, e = .returned v ∧ Sorted (soC o rev dirs) l p ∧ w'.ownsRow w.heap.size 3 1 v l.length (ints (p.map fun i : Nat => (i : Int))) ∧ Below w.heap.size w w' := psort_any o rev dirs l a cap w H hl hz
end Go.Proofs.YtpikndeefiediaaGreatDoor.O
