/-
  What slices.DeleteFunc returns of a row of entries that was made, with roam's isHidden: the row without those that begin with a point. Conditions: at most 1000000 entries.
-/
import Derived.Test.YtcjbnjoomgagjaaGreatDoorKGDel
import Derived.BigFrame
import Derived.Test.YtcjbnjoomgagjaaGreatDoorKOArr
import Derived.Laws.EntriesVeiled
import Derived.Test.YtcjbnjoomgagjaaGreatDoorKGTree
set_option linter.unusedVariables false
set_option linter.unusedSimpArgs false
namespace Go.Proofs.YtcjbnjoomgagjaaGreatDoor.G
open Go.RowKit
theorem clear_row {w : World} {b g n cap : Nat} {Z : List Ent} (h : w.ownsRow b 81 2 (.slice (some ⟨g, 0, none⟩) n cap) n (rowsC enC' Z)) {i : Nat} (hi : i < n) (hZ : Z.length = n) :
    ∃ arr, (∀ ty, (Builtin.clear_ #[45] ty #[.slice (some ⟨g, i * 2, none⟩) (n - i) (cap - i)]).run Tryz.prog w = .ok (.tuple #[]) (w.setRow g arr)) ∧ (w.setRow g arr).ownsRow b 81 2 (.slice (some ⟨g, 0, none⟩) i cap) i (rowsC enC' (Z.take i)) := by
  rcases h.2 with ⟨q, _⟩ | ⟨g', cap', cur, hv, hB, hg, hnc, hcm, hcs, ht⟩
  · cases q
  · simp only [Value.slice.injEq, Option.some.injEq, Addr.mk.injEq] at hv
    obtain ⟨⟨rfl, _, _⟩, _, rfl⟩ := hv
    obtain ⟨i0, hi0, hz0, hz1, hz2⟩ := info_parts infoEnt
    have hzv : ∀ w : World, (zeroValue 81).run Tryz.prog w = .ok (.agg #[.string ⟨#[]⟩, .int .i64 0]) w := fun w => by kernel_rfl
    have hzl := zeros_len #[.string ⟨#[]⟩, .int .i64 0] rfl (n - i)
    have hst := run_storeCells_at (P := Tryz.prog) g (i * 2) 81 (Builtin.zeroCells #[.string ⟨#[]⟩, .int .i64 0] (n - i)).toList 0 cur w hg (by rw [hzl]; omega) (zeros_one _)
    rw [hzl] at hst
    rw [Nat.add_zero] at hst
    refine ⟨(cur.toList.take (i * 2) ++ (Builtin.zeroCells #[.string ⟨#[]⟩, .int .i64 0] (n - i)).toList ++ cur.toList.drop (i * 2 + (n - i) * 2)).toArray, fun ty => ?_, ?_⟩
    · obtain ⟨m, hm⟩ : ∃ m, n - i = m + 1 := ⟨n - i - 1, by omega⟩
      rw [hm] at hst ⊢
      simp only [Builtin.clear_, Value.cells] at hst ⊢
      simp [run_underlying Tryz.underlying45, hzv, hst, Value.cells]
    · have hl2 : (cur.toList.take (i * 2)).length = i * 2 := by rw [List.length_take, Array.length_toList, hcs]; omega
      refine ⟨by rw [rowsC_len enC'_len, List.length_take]; omega, .inr ⟨g, cap, _, rfl, hB, setRow_heap _ _ _ _ _ _ hg, by omega, hcm, ?_, ?_⟩⟩
      · rw [List.size_toArray, List.length_append, List.length_append, hl2, hzl, List.length_drop, Array.length_toList, hcs]
        omega
      · rw [List.toList_toArray, List.append_assoc, List.take_append_of_le_length (by omega), List.take_of_length_le (by omega)]
        have e2 := congrArg (List.take (i * 2)) ht
        rw [List.take_take, rowsC_take enC'_len, Nat.min_eq_left (by omega)] at e2
        exact e2
theorem below_setRow_n {B g : Nat} {a w : World} (h : Below B a w) (hg : B ≤ g) (cs : Array Value) : Below B a (w.setRow g cs) :=
  ⟨h.os, h.tape, h.output, by have := h.size; simp [World.setRow]; omega, fun k hk => by rw [setRow_other _ _ _ _ (by omega)]; exact h.block k hk⟩
def DelRel (l : List Ent) (b g cap : Nat) (W0 : World) (v5 v6 : Value) (wr : World) : Prop :=
  ∃ (i j : Nat) (Z : List Ent), v5 = .int .i64 (i : Int) ∧ v6 = .int .i64 (j : Int) ∧ j ≤ l.length ∧ Hid (DelOk l Z i j) ∧ Hid (wr.ownsRow b 81 2 (.slice (some ⟨g, 0, none⟩) l.length cap) l.length (rowsC enC' Z)) ∧ Hid (Below W0.heap.size W0 wr)
set_option maxRecDepth 100000 in
set_option maxHeartbeats 8000000 in
theorem delete_any (v : Value) (l : List Ent) (b : Nat) (W0 w : World) (H : w.ownsRow b 81 2 v l.length (rowsC enC' l)) (hl : l.length ≤ 1000000) (hb : W0.heap.size ≤ b) (hlow : Below W0.heap.size W0 w) :
    Calls Tryz.prog 32 #[v, .func (.func 33) #[] #[]] w fun x w' => ∃ u, x = .returned u ∧ w'.ownsRow b 81 2 u (keepL l).length (rowsC enC' (keepL l)) ∧ Below W0.heap.size W0 w' := by
  have HI := Lib.hid (index_any v l b w H hl)
  have HH := Lib.hid H
  have HLow := Lib.hid hlow
  have HB := Lib.hid hb
  clear H hlow hb
  go_enter Tryz.func32, Tryz.ntmps32
  go_wp2_with fail
  refine HI.out.mono ?_
  rintro x w1 ⟨r, rfl, hr, hb1⟩
  have HL1 := Lib.hid (HLow.out.trans (hb1.mono HLow.out.size))
  have HO1 := Lib.hid (B.owns_to HH.out hb1)
  clear hb1 HI HH HLow
  rcases hr with ⟨rfl, hall⟩ | ⟨i, e, rfl, he, hh, hbf⟩
  · have HK := Lib.hid (show keepL l = l from List.filter_eq_self.2 fun x hx => by rw [hall x hx]; rfl)
    clear hall
    go_wp2_with fail
    go_ret
    exact ⟨v, rfl, by rw [HK.out]; exact HO1.out, HL1.out⟩
  · have HD := Lib.hid (DelOk.start he hh hbf)
    have hil : i < l.length := (List.getElem?_eq_some_iff.1 he).1
    clear he hh hbf
    obtain ⟨g, cap, rfl, hlc, hcm⟩ := B.owns_some HO1.out (by omega)
    have d0 : ((i : Int) == -1) = false := by rw [beq_eq_false_iff_ne]; omega
    have hw0 : IntKind.i64.wrap ((i : Int) + 1) = (i : Int) + 1 := IntWalk.i64_in _ (by omega)
    go_wp2_with fail
    go_loopw [5, 6] (DelRel l b g cap W0) (fun _ v _ => l.length - (intOf v).toNat)
    case atStart => exact ⟨i, i + 1, l, rfl, by simp, by omega, HD, HO1, HL1⟩
    case round =>
      clear d0 hw0 hil HD HO1 HL1
      obtain ⟨i, j, Z, rfl, rfl, hj, HD, HO, HL⟩ := hrel
      have hij : i < j := HD.out.2.2.2
      by_cases hlt : j < l.length
      · have d1 : decide ((j : Int) < (l.length : Int)) = true := decide_eq_true (by omega)
        obtain ⟨e, he⟩ : ∃ e, l[j]? = some e := ⟨_, List.getElem?_eq_getElem hlt⟩
        have HE := Lib.hid he
        have hze := HD.out.at_ he
        have r0 : wr.cell? ⟨g, j * 2, none⟩ = some (.string e.1) := B.owns_cell HO.out ((rowsC_get enC'_len _ _ 0 _ hze (by decide)).trans rfl)
        have r1 : wr.cell? ⟨g, j * 2 + 1, none⟩ = some (.int .i64 e.2) := B.owns_cell HO.out ((rowsC_get enC'_len _ _ 1 _ hze (by decide)).trans rfl)
        clear he hze
        go_upto_region 8 with fail
        have HX2 := Lib.hid (heap_alloc_new wr (.cells #[.string e.1, .int .i64 e.2] 81))
        have HB2 := Lib.hid ((Below.refl wr.heap.size wr).alloc (Nat.le_refl _) (.cells #[.string e.1, .int .i64 e.2] 81))
        generalize wr.alloc (.cells #[.string e.1, .int .i64 e.2] 81) = w2 at HX2 HB2 ⊢
        have HO2 := Lib.hid (B.owns_to HO.out HB2.out)
        have HL2 := Lib.hid (HL.out.trans (HB2.out.mono HL.out.size))
        clear r0 r1 HB2 HO HL
        generalize wr.heap.size = B4 at HX2 ⊢
        have q0 : w2.cell? ⟨B4, 0, none⟩ = some (.string e.1) := by rw [cell_of_row _ _ _ _ _ _ HX2.out]; rfl
        have q1 : w2.cell? ⟨B4, 1, none⟩ = some (.int .i64 e.2) := by rw [cell_of_row _ _ _ _ _ _ HX2.out]; rfl
        go_wp2_with fail
        refine (hidden_any e w2).mono ?_
        rintro x w3 ⟨rfl, hb3⟩
        have HX3 := Lib.hid ((hb3.block _ (B.heap_lt HX2.out)).trans HX2.out)
        have HO3 := Lib.hid (B.owns_to HO2.out hb3)
        have HL3 := Lib.hid (HL2.out.trans (hb3.mono HL2.out.size))
        clear hb3 q0 q1 HX2 HO2 HL2
        cases hh : hidB e with
        | true =>
          have HDn := Lib.hid (HD.out.skip HE.out hh)
          clear hh
          go_wp2_with fail
          go_roundw
          case rel => exact ⟨i, j + 1, Z, rfl, by simp, by omega, HDn, HO3, HL3⟩
          case measure => simp [intOf]; omega
        | false =>
          have HDn := Lib.hid (HD.out.put HE.out hh)
          have hiZ : i < Z.length := by rw [HD.out.1]; omega
          have HO4 := Lib.hid (owns_pair HO3.out hiZ e)
          have HL4 := Lib.hid (show Below W0.heap.size W0 (w3.setCells g (i * 2) [.string e.1, .int .i64 e.2]) from (HL3.out.setCell (p := ⟨g, i * 2, none⟩) (Nat.le_trans HB.out (HO3.out.lt g rfl).1) _).setCell (p := ⟨g, i * 2 + 1, none⟩) (Nat.le_trans HB.out (HO3.out.lt g rfl).1) _)
          have HTh := Lib.hid (show w3.there g (i * 2) 2 from fun k hk => by
            obtain ⟨z, hz⟩ : ∃ z, Z[i]? = some z := ⟨_, List.getElem?_eq_getElem hiZ⟩
            refine ⟨?_, B.owns_frozen HO3.out _⟩
            have : k = 0 ∨ k = 1 := by omega
            rcases this with rfl | rfl
            · rw [B.owns_cell HO3.out ((rowsC_get enC'_len _ _ 0 _ hz (by decide)).trans rfl)]; rfl
            · rw [B.owns_cell HO3.out ((rowsC_get enC'_len _ _ 1 _ hz (by decide)).trans rfl)]; rfl)
          have q0 : w3.cell? ⟨B4, 0, none⟩ = some (.string e.1) := by rw [cell_of_row _ _ _ _ _ _ HX3.out]; rfl
          have q1 : w3.cell? ⟨B4, 1, none⟩ = some (.int .i64 e.2) := by rw [cell_of_row _ _ _ _ _ _ HX3.out]; rfl
          have hw1 : IntKind.i64.wrap ((i : Int) + 1) = (i : Int) + 1 := IntWalk.i64_in _ (by omega)
          have hil : i < l.length := by omega
          clear hh hiZ
          go_wp2_with (refine wpList_store_mid rfl 81 (.tmp 33) (.tmp 32) rfl g (i * 2) #[.string e.1, .int .i64 e.2] rfl rfl HTh.out sizeEnt (by simp [Value.oneCell']) ?_)
          go_roundw
          case rel => exact ⟨i + 1, j + 1, Z.set i e, by simp, by simp, by omega, HDn, HO4, HL4⟩
          case measure => simp [intOf]; omega
      · have d1 : decide ((j : Int) < (l.length : Int)) = false := decide_eq_false (by omega)
        obtain rfl : j = l.length := by omega
        have HTk := Lib.hid (show Z.take i = keepL l from by have := HD.out.2.1; rwa [List.take_length] at this)
        have hil : i < l.length := hij
        obtain ⟨arr, hcl, hown⟩ := clear_row HO.out hil HD.out.1
        have HOw := Lib.hid hown
        have HLa := Lib.hid (below_setRow_n HL.out (Nat.le_trans HB.out (HO.out.lt g rfl).1) arr)
        have hc1 : ¬ cap = i := by omega
        have hc2 : i ≤ cap := by omega
        have hc3 : i ≤ l.length := by omega
        have hc4 : IntKind.i64.wrap (i : Int) = (i : Int) := IntWalk.i64_in _ (by omega)
        clear hown
        go_wp2_with fail
        go_ret
        have HLn := Lib.hid (show (keepL l).length = i from by rw [← HTk.out, List.length_take, HD.out.1]; omega)
        exact ⟨_, rfl, by rw [HLn.out, ← HTk.out]; exact HOw.out, HLa.out⟩
end Go.Proofs.YtcjbnjoomgagjaaGreatDoor.G
namespace Go.Proofs.YtcjbnjoomgagjaaGreatDoor.O
open Go.Proofs.YtcjbnjoomgagjaaGreatDoor.B
open Go.RowKit
theorem Box.new (w : World) (v : Value) (t : TypeId) : Box (w.alloc (.cells #[v] t)) w.heap.size v := ⟨t, heap_alloc_new w _⟩
theorem Box.next {w : World} {k : Nat} {v : Value} (h : Box w k v) (o : Obj) : Box (w.alloc o) k v := h.keep ((Below.refl _ _).alloc (Nat.le_refl _) _)
theorem four_boxes (w : World) (u0 u1 u2 u3 : Value) (t0 t1 t2 t3 : TypeId) :
    Box ((((w.alloc (.cells #[u0] t0)).alloc (.cells #[u1] t1)).alloc (.cells #[u2] t2)).alloc (.cells #[u3] t3)) w.heap.size u0 ∧ Box ((((w.alloc (.cells #[u0] t0)).alloc (.cells #[u1] t1)).alloc (.cells #[u2] t2)).alloc (.cells #[u3] t3)) (w.heap.size + 1) u1 ∧
    Box ((((w.alloc (.cells #[u0] t0)).alloc (.cells #[u1] t1)).alloc (.cells #[u2] t2)).alloc (.cells #[u3] t3)) (w.heap.size + 1 + 1) u2 ∧ Box ((((w.alloc (.cells #[u0] t0)).alloc (.cells #[u1] t1)).alloc (.cells #[u2] t2)).alloc (.cells #[u3] t3)) (w.heap.size + 1 + 1 + 1) u3 ∧
    ((((w.alloc (.cells #[u0] t0)).alloc (.cells #[u1] t1)).alloc (.cells #[u2] t2)).alloc (.cells #[u3] t3)).heap.size = w.heap.size + 1 + 1 + 1 + 1 ∧
    Below w.heap.size w ((((w.alloc (.cells #[u0] t0)).alloc (.cells #[u1] t1)).alloc (.cells #[u2] t2)).alloc (.cells #[u3] t3)) := by
  have s1 : (w.alloc (.cells #[u0] t0)).heap.size = w.heap.size + 1 := by simp
  have s2 : ((w.alloc (.cells #[u0] t0)).alloc (.cells #[u1] t1)).heap.size = w.heap.size + 1 + 1 := by simp
  have s3 : (((w.alloc (.cells #[u0] t0)).alloc (.cells #[u1] t1)).alloc (.cells #[u2] t2)).heap.size = w.heap.size + 1 + 1 + 1 := by simp
  refine ⟨((Box.new w u0 t0).next _ |>.next _).next _, ?_, ?_, ?_, by simp, ((((Below.refl _ _).alloc (Nat.le_refl _) _).alloc (by simp) _).alloc (by simp; omega) _).alloc (by simp; omega) _⟩
  · have := ((Box.new (w.alloc (.cells #[u0] t0)) u1 t1).next (.cells #[u2] t2)).next (.cells #[u3] t3)
    rwa [s1] at this
  · have := (Box.new ((w.alloc (.cells #[u0] t0)).alloc (.cells #[u1] t1)) u2 t2).next (.cells #[u3] t3)
    rwa [s2] at this
  · have := Box.new (((w.alloc (.cells #[u0] t0)).alloc (.cells #[u1] t1)).alloc (.cells #[u2] t2)) u3 t3
    rwa [s3] at this
theorem row_of {w : World} {base : Nat} {e : TypeId} {g n : Nat} {xs : List Value} (h : w.ownsRow base e 1 (.slice (some ⟨g, 0, none⟩) n n) n xs) : w.heap[g]? = some (.cells xs.toArray e (0, 0)) := by
  obtain ⟨hl, h⟩ := h
  rcases h with ⟨h, _⟩ | ⟨g', cap', cur, hv, hb, hg, hnc, hcm, hcs, ht⟩
  · cases h
  · simp only [Value.slice.injEq, Option.some.injEq, Addr.mk.injEq] at hv
    obtain ⟨⟨rfl, _, _⟩, _, rfl⟩ := hv
    rw [Nat.mul_one] at hcs ht
    rw [List.take_of_length_le (by rw [Array.length_toList, hcs]; exact Nat.le_refl _)] at ht
    rw [hg, ← ht]
theorem row_owns {w : World} {base : Nat} {e : TypeId} {g n : Nat} {xs : List Value} (hb : base ≤ g) (hg : w.heap[g]? = some (.cells xs.toArray e (0, 0))) (hn : xs.length = n) (hm : n ≤ maxLen) : w.ownsRow base e 1 (.slice (some ⟨g, 0, none⟩) n n) n xs := by
  refine ⟨by rw [Nat.mul_one]; exact hn, .inr ⟨g, n, xs.toArray, rfl, hb, hg, Nat.le_refl _, hm, by rw [List.size_toArray, Nat.mul_one]; exact hn, ?_⟩⟩
  rw [Nat.mul_one]
  exact List.take_of_length_le (Nat.le_of_eq hn)
theorem made_zeros (n : Nat) : (madeCells (Value.int .i64 0).cells (n * 1)).toList = natsV (List.replicate n 0) := by
  have : (Value.int .i64 0).cells = #[.int .i64 0] := rfl
  rw [this, toList_madeCells_one, Nat.mul_one]
  unfold natsV
  rw [List.map_replicate]
  rfl
def initL (i n : Nat) : List Nat := List.range i ++ List.replicate (n - i) 0
theorem init_at {i n : Nat} (h : i < n) : (initL i n)[i]? = some 0 := by
  unfold initL
  rw [List.getElem?_append_right (by rw [List.length_range]; exact Nat.le_refl _), List.length_range, Nat.sub_self, List.getElem?_replicate, if_pos (by omega)]
theorem init_step {i n : Nat} (h : i < n) : (initL i n).set i i = initL (i + 1) n := by
  unfold initL
  obtain ⟨k, rfl⟩ : ∃ k, n = i + 1 + k := ⟨n - (i + 1), by omega⟩
  rw [show i + 1 + k - i = k + 1 by omega, show i + 1 + k - (i + 1) = k by omega, List.replicate_succ, List.set_append_right _ _ (by rw [List.length_range]; exact Nat.le_refl _), List.length_range, Nat.sub_self, List.set_cons_zero, List.range_succ, List.append_assoc]
  rfl
theorem init_end (n : Nat) : initL n n = List.range n := by
  unfold initL
  rw [Nat.sub_self]
  exact List.append_nil _
structure Mem (L : List (Nat × Value)) (R : List (Nat × List Nat)) (W : World) : Prop where
  box : ∀ p ∈ L, Box W p.1 p.2
  row : ∀ p ∈ R, W.heap[p.1]? = some (.cells (natsV p.2).toArray 3 (0, 0))
theorem Mem.keep {L : List (Nat × Value)} {R : List (Nat × List Nat)} {W W' : World} (h : Mem L R W) (hb : Below W.heap.size W W') : Mem L R W' :=
  ⟨fun p hp => (h.box p hp).keep hb, fun p hp => (hb.block _ (heap_lt (h.row p hp))).trans (h.row p hp)⟩
theorem Mem.more {L : List (Nat × Value)} {R : List (Nat × List Nat)} {W W' : World} (h : Mem L R W) (hb : Below W.heap.size W W') {k : Nat} {v : Value} (hv : Box W' k v) : Mem ((k, v) :: L) R W' :=
  ⟨fun p hp => by
    rcases List.mem_cons.1 hp with rfl | hp
    · exact hv
    · exact (h.keep hb).box p hp, (h.keep hb).row⟩
theorem Mem.moreR {L : List (Nat × Value)} {R : List (Nat × List Nat)} {W W' : World} (h : Mem L R W) (hb : Below W.heap.size W W') {g : Nat} {Z : List Nat} (hg : W'.heap[g]? = some (.cells (natsV Z).toArray 3 (0, 0))) : Mem L ((g, Z) :: R) W' :=
  ⟨(h.keep hb).box, fun p hp => by
    rcases List.mem_cons.1 hp with rfl | hp
    · exact hg
    · exact (h.keep hb).row p hp⟩
theorem mem_four {W : World} {k0 k1 k2 k3 : Nat} {v0 v1 v2 v3 : Value} (h : Box W k0 v0 ∧ Box W k1 v1 ∧ Box W k2 v2 ∧ Box W k3 v3) : Mem [(k3, v3), (k2, v2), (k1, v1), (k0, v0)] [] W := by
  refine ⟨fun p hp => ?_, fun p hp => by cases hp⟩
  simp only [List.mem_cons, List.not_mem_nil, or_false] at hp
  rcases hp with rfl | rfl | rfl | rfl
  · exact h.2.2.2
  · exact h.2.2.1
  · exact h.2.1
  · exact h.1
theorem Mem.set1 {L : List (Nat × Value)} {g : Nat} {Z : List Nat} {W : World} (h : Mem L [(g, Z)] W) (hne : ∀ p ∈ L, p.1 ≠ g) (j v : Nat) : Mem L [(g, Z.set j v)] (W.setCell ⟨g, j, none⟩ (.int .i64 (v : Int))) := by
  refine ⟨fun p hp => (h.box p hp).at_ (heap_setCell_other _ _ _ _ (hne p hp)), fun p hp => ?_⟩
  obtain rfl := List.mem_singleton.1 hp
  have e : W.heap[g]? = some (.cells (natsV Z).toArray 3 (0, 0)) := h.row (g, Z) (List.mem_singleton.2 rfl)
  show (W.setCell ⟨g, j, none⟩ (.int .i64 (v : Int))).heap[g]? = some (.cells (natsV (Z.set j v)).toArray 3 (0, 0))
  rw [heap_setCell_same _ _ _ _ _ _ e]
  congr 2
  unfold natsV
  rw [List.setIfInBounds_toArray, List.map_set]
theorem Mem.at1 {L : List (Nat × Value)} {g : Nat} {Z : List Nat} {W : World} (h : Mem L [(g, Z)] W) {j x : Nat} (hj : Z[j]? = some x) : W.cell? ⟨g, j, none⟩ = some (.int .i64 (x : Int)) ∧ W.frozen? ⟨g, j, none⟩ = false := by
  have e : W.heap[g]? = some (.cells (natsV Z).toArray 3 (0, 0)) := h.row (g, Z) (List.mem_singleton.2 rfl)
  refine ⟨?_, frozen_of_row _ _ _ _ _ e⟩
  rw [cell_of_row _ _ _ _ _ _ e, List.getElem?_toArray]
  exact natsV_get hj
def InitRel (n gp bp : Nat) (L : List (Nat × Value)) (w : World) (v : Value) (wr : World) : Prop :=
  ∃ i : Nat, v = .int .i64 (i : Int) ∧ i ≤ n ∧ Hid (Mem L [(gp, initL i n)] wr) ∧ Hid (Below w.heap.size w wr)
def sortCfg (w : World) (o : Int) (rev dirs : Bool) (l : List Ky) (a : Option Addr) (cap b1 b2 b3 gp bp bc gs bs ba : Nat) : Cfg :=
  { w0 := w, o := o, rev := rev, dirs := dirs, l := l, a := a, cap := cap, bo := w.heap.size, br := b1, bd := b2, bl := b3, gp := gp, bp := bp, bc := bc, gs := gs, bs := bs, ba := ba }
theorem sort_ready (w : World) (o : Int) (rev dirs : Bool) (l : List Ky) (a : Option Addr) (cap b1 b2 b3 gp bp bc gs bs ba : Nat) (W : World)
    (h1 : w.heap.size < gp ∧ b1 < gp ∧ b2 < gp ∧ b3 < gp) (h2 : gp < bp ∧ bp < bc ∧ bc < gs ∧ gs < bs ∧ bs < ba) (H : IsKeys w a l) (hl : l.length ≤ 1000) (hz : ∀ c ∈ l, c.name.size ≤ 60000)
    (HM : Mem [(ba, .func (.func 76) #[] #[.pointer (some ⟨ba, 0, none⟩), .pointer (some ⟨bs, 0, none⟩), .pointer (some ⟨bp, 0, none⟩), .pointer (some ⟨bc, 0, none⟩)]),
      (bs, .slice (some ⟨gs, 0, none⟩) l.length l.length),
      (bc, .func (.func 74) #[] #[.pointer (some ⟨w.heap.size, 0, none⟩), .pointer (some ⟨b1, 0, none⟩), .pointer (some ⟨b2, 0, none⟩), .pointer (some ⟨b3, 0, none⟩)]),
      (bp, .slice (some ⟨gp, 0, none⟩) l.length l.length), (b3, .slice a l.length cap), (b2, .bool dirs), (b1, .bool rev), (w.heap.size, .int .i64 o)] [(gs, List.replicate l.length 0), (gp, List.range l.length)] W)
    (HB : Below w.heap.size w W) : CfgOK (sortCfg w o rev dirs l a cap b1 b2 b3 gp bp bc gs bs ba) ∧ SI (sortCfg w o rev dirs l a cap b1 b2 b3 gp bp bc gs bs ba) (List.range l.length) (List.replicate l.length 0) W := by
  obtain ⟨q1, q2, q3, q4⟩ := h1
  obtain ⟨q5, q6, q7, q8, q9⟩ := h2
  refine ⟨⟨?_, ?_, ?_, ?_, ?_, H, hl, hz⟩, ⟨HB, ?_, ?_, ?_, ?_, ?_, ?_, ?_, ?_, ?_, ?_, List.length_range, List.length_replicate⟩⟩
  · show gp ≠ gs; omega
  · show w.heap.size ≠ gp ∧ b1 ≠ gp ∧ b2 ≠ gp ∧ b3 ≠ gp ∧ bp ≠ gp ∧ bc ≠ gp ∧ bs ≠ gp ∧ ba ≠ gp; omega
  · show w.heap.size ≠ gs ∧ b1 ≠ gs ∧ b2 ≠ gs ∧ b3 ≠ gs ∧ bp ≠ gs ∧ bc ≠ gs ∧ bs ≠ gs ∧ ba ≠ gs; omega
  · show w.heap.size ≤ gp; omega
  · show w.heap.size ≤ gs; omega
  · exact HM.box (w.heap.size, _) (.tail _ (.tail _ (.tail _ (.tail _ (.tail _ (.tail _ (.tail _ (.head _))))))))
  · exact HM.box (b1, _) (.tail _ (.tail _ (.tail _ (.tail _ (.tail _ (.tail _ (.head _)))))))
  · exact HM.box (b2, _) (.tail _ (.tail _ (.tail _ (.tail _ (.tail _ (.head _))))))
  · exact HM.box (b3, _) (.tail _ (.tail _ (.tail _ (.tail _ (.head _)))))
  · exact HM.box (bp, _) (.tail _ (.tail _ (.tail _ (.head _))))
  · exact HM.box (bc, _) (.tail _ (.tail _ (.head _)))
  · exact HM.box (bs, _) (.tail _ (.head _))
  · exact HM.box (ba, _) (.head _)
  · exact HM.row (gp, _) (.tail _ (.head _))
  · exact HM.row (gs, _) (.head _)
theorem arr_all (C : Cfg) (ok : CfgOK C) (W : World) (h : SI C (List.range C.l.length) (List.replicate C.l.length 0) W) :
    Calls Tryz.prog 76 #[.int .i64 0, .int .i64 (C.l.length : Int), .pointer (some ⟨C.ba, 0, none⟩), .pointer (some ⟨C.bs, 0, none⟩), .pointer (some ⟨C.bp, 0, none⟩), .pointer (some ⟨C.bc, 0, none⟩)] W fun e W' =>
      ∃ v r X', e = .returned v ∧ SortOf (aheadL (soC C.o C.rev C.dirs) C.l) (List.range C.l.length) r ∧ SI C r X' W' := by
  refine (arr_any C ok C.l.length 0 C.l.length (List.range C.l.length) (List.replicate C.l.length 0) W (by omega) (Nat.zero_le _) (Nat.le_refl _) h (fun k _ hk => by rw [List.getElem?_range hk])).mono ?_
  rintro e w7 ⟨v7, r, X, rfl, hso, hsi⟩
  rw [Nat.sub_zero, ← List.range_eq_range'] at hso
  rw [List.take_zero, List.nil_append, List.drop_of_length_le (by rw [List.length_range]; exact Nat.le_refl _), List.append_nil] at hsi
  exact ⟨_, r, X, rfl, hso, hsi⟩
set_option maxRecDepth 100000 in
set_option maxHeartbeats 8000000 in
theorem psort_any (o : Int) (rev dirs : Bool) (l : List Ky) (a : Option Addr) (cap : Nat) (w : World) (H : IsKeys w a l) (hl : l.length ≤ 1000) (hz : ∀ c ∈ l, c.name.size ≤ 60000) :
    Calls Tryz.prog 56 #[.int .i64 o, .bool rev, .bool dirs, .slice a l.length cap] w fun e w' => ∃ v p, e = .returned v ∧ Sorted (soC o rev dirs) l p ∧ w'.ownsRow w.heap.size 3 1 v l.length (ints (p.map fun i : Nat => (i : Int))) ∧ Below w.heap.size w w' := by
  obtain ⟨i0, hi0, hz0, hz1, hz2⟩ := info_parts infoInt
  have HH := Lib.hid H
  have HZ := Lib.hid hz
  clear H hz
  obtain ⟨n, hn⟩ : ∃ n, l.length = n := ⟨_, rfl⟩
  have HN := Lib.hid hn
  rw [hn] at hl ⊢
  clear hn
  go_enter Tryz.func56, Tryz.ntmps56
  go_upto_region 1 with fail
  obtain ⟨X0, X1, X2, X3, XS, XB⟩ := four_boxes w (.int .i64 o) (.bool rev) (.bool dirs) (.slice a n cap) 3 4 4 105
  have HB := Lib.hid XB
  have HX := Lib.hid (And.intro X0 (And.intro X1 (And.intro X2 X3)))
  clear X0 X1 X2 X3 XB
  generalize (((w.alloc (.cells #[.int .i64 o] 3)).alloc (.cells #[.bool rev] 4)).alloc (.cells #[.bool dirs] 4)).alloc (.cells #[.slice a n cap] 105) = wA at HX HB XS ⊢
  have HLt := Lib.hid (show w.heap.size < w.heap.size + 1 + 1 + 1 + 1 ∧ w.heap.size + 1 < w.heap.size + 1 + 1 + 1 + 1 ∧ w.heap.size + 1 + 1 < w.heap.size + 1 + 1 + 1 + 1 ∧ w.heap.size + 1 + 1 + 1 < w.heap.size + 1 + 1 + 1 + 1 from ⟨by omega, by omega, by omega, by omega⟩)
  rw [← XS] at HLt
  generalize w.heap.size + 1 + 1 + 1 = b3 at HX HLt ⊢
  generalize w.heap.size + 1 + 1 = b2 at HX HLt ⊢
  generalize w.heap.size + 1 = b1 at HX HLt ⊢
  clear XS
  have x3 := HX.out.2.2.2.cell
  go_upto_region 2 with (at_make; go_loud (refine wpList_make_full _ rfl (.tmp 15) (.tmp 15) 32 rfl w.heap.size 3 i0 (.int .i64 0) 1 Tryz.underlying32 hi0 hz0 hz1 .i64 .i64 _ _ n rfl rfl rfl rfl (by rw [hz2]; omega) (by unfold maxLen; omega) HB.out.size ?_; intro w1 hown hgrow))
  have hcells := made_zeros n
  rw [hcells] at hown
  have HM1 := Lib.hid (Mem.moreR (mem_four HX.out) ((Below.refl _ _).grown hgrow (Nat.le_refl _) (fun j hj => by cases hj)) (row_of hown))
  have HB1 := Lib.hid (HB.out.grown hgrow HB.out.size (fun j hj => by cases hj))
  have hg1 : wA.heap.size < w1.heap.size := heap_lt (row_of hown)
  clear hown hgrow hcells x3 HX HB
  generalize wA.heap.size = gp at HLt HM1 hg1 ⊢
  have HM2 := Lib.hid (HM1.out.more ((Below.refl _ _).alloc (Nat.le_refl _) (.cells #[.slice (some ⟨gp, 0, none⟩) n n] 32)) (Box.new w1 _ _))
  have HB2 := Lib.hid (HB1.out.alloc HB1.out.size (.cells #[.slice (some ⟨gp, 0, none⟩) n n] 32))
  generalize w1.alloc (.cells #[.slice (some ⟨gp, 0, none⟩) n n] 32) = w2 at HM2 HB2 ⊢
  clear HM1 HB1
  generalize w1.heap.size = bp at hg1 HM2 ⊢
  have c1 : w2.cell? ⟨bp, 0, none⟩ = some (.slice (some ⟨gp, 0, none⟩) n n) := (HM2.out.box _ (List.mem_cons_self)).cell
  have HNe := Lib.hid (show ∀ p ∈ [(bp, Value.slice (some ⟨gp, 0, none⟩) n n), (b3, .slice a n cap), (b2, .bool dirs), (b1, .bool rev), (w.heap.size, .int .i64 o)], p.1 ≠ gp from fun p hp => by
    have q := HLt.out
    simp only [List.mem_cons, List.not_mem_nil, or_false] at hp
    rcases hp with rfl | rfl | rfl | rfl | rfl <;> (simp only []; omega))
  generalize hLL : [(bp, Value.slice (some ⟨gp, 0, none⟩) n n), (b3, .slice a n cap), (b2, .bool dirs), (b1, .bool rev), (w.heap.size, .int .i64 o)] = L2 at HM2 HNe
  have HLL := Lib.hid hLL
  clear hLL
  go_wp2_with fail
  go_loopw [19] (InitRel n gp bp L2 w) (fun v _ => n - (intOf v).toNat)
  case atStart => exact ⟨0, rfl, Nat.zero_le _, HM2, HB2⟩
  case round =>
    obtain ⟨i, rfl, hin, HM, HBi⟩ := hrel
    have c2 : wr.cell? ⟨bp, 0, none⟩ = some (.slice (some ⟨gp, 0, none⟩) n n) := (HM.out.box (bp, _) (by rw [← HLL.out]; exact List.mem_cons_self)).cell
    by_cases hi : i < n
    · have e1 : decide ((i : Int) < (n : Int)) = true := decide_eq_true (by omega)
      obtain ⟨c3, c4⟩ := HM.out.at1 (init_at hi)
      have HMn := Lib.hid (show Mem L2 [(gp, initL (i + 1) n)] (wr.setCell ⟨gp, i, none⟩ (.int .i64 (i : Int))) from by rw [← init_step hi]; exact HM.out.set1 HNe.out i i)
      have HBn := Lib.hid (HBi.out.setCell (p := ⟨gp, i, none⟩) (Nat.le_of_lt HLt.out.1) (.int .i64 (i : Int)))
      go_wp2_with fail
      go_roundw
      case rel => exact ⟨i + 1, by simp, by omega, HMn, HBn⟩
      case measure => simp [intOf]; omega
    · have e1 : decide ((i : Int) < (n : Int)) = false := decide_eq_false (by omega)
      obtain rfl : i = n := by omega
      rw [init_end] at HM
      go_upto_region 8 with fail
      clear c1 c2 HM2 HB2 HNe
      have hbc : bp < wr.heap.size := (HM.out.box (bp, .slice (some ⟨gp, 0, none⟩) i i) (by rw [← HLL.out]; exact List.mem_cons_self)).elim fun _ h => heap_lt h
      have HM3 := Lib.hid (HM.out.more ((Below.refl _ _).alloc (Nat.le_refl _) (.cells #[.func (.func 74) #[] #[.pointer (some ⟨w.heap.size, 0, none⟩), .pointer (some ⟨b1, 0, none⟩), .pointer (some ⟨b2, 0, none⟩), .pointer (some ⟨b3, 0, none⟩)]] 102)) (Box.new wr _ _))
      have HB3 := Lib.hid (HBi.out.alloc HBi.out.size (.cells #[.func (.func 74) #[] #[.pointer (some ⟨w.heap.size, 0, none⟩), .pointer (some ⟨b1, 0, none⟩), .pointer (some ⟨b2, 0, none⟩), .pointer (some ⟨b3, 0, none⟩)]] 102))
      generalize wr.alloc (.cells #[.func (.func 74) #[] #[.pointer (some ⟨w.heap.size, 0, none⟩), .pointer (some ⟨b1, 0, none⟩), .pointer (some ⟨b2, 0, none⟩), .pointer (some ⟨b3, 0, none⟩)]] 102) = w3 at HM3 HB3 ⊢
      clear HM HBi
      generalize wr.heap.size = bc at hbc HM3 ⊢
      have c3 : w3.cell? ⟨b3, 0, none⟩ = some (.slice a i cap) := (HM3.out.box (b3, _) (by rw [← HLL.out]; exact List.mem_cons_of_mem _ (List.mem_cons_of_mem _ (List.mem_cons_self)))).cell
      have hbs : bc < w3.heap.size := (HM3.out.box (bc, _) (List.mem_cons_self)).elim fun _ h => heap_lt h
      go_upto_region 9 with (at_make; go_loud (refine wpList_make_full _ rfl (.tmp 29) (.tmp 29) 32 rfl w.heap.size 3 i0 (.int .i64 0) 1 Tryz.underlying32 hi0 hz0 hz1 .i64 .i64 _ _ i rfl rfl rfl rfl (by rw [hz2]; omega) (by unfold maxLen; omega) HB3.out.size ?_; intro w4 hown hgrow))
      have hcells := made_zeros i
      rw [hcells] at hown
      have HM4 := Lib.hid (HM3.out.moreR ((Below.refl _ _).grown hgrow (Nat.le_refl _) (fun j hj => by cases hj)) (row_of hown))
      have HB4 := Lib.hid (HB3.out.grown hgrow HB3.out.size (fun j hj => by cases hj))
      have hg4 : w3.heap.size < w4.heap.size := heap_lt (row_of hown)
      clear hown hgrow hcells c3 HM3 HB3
      generalize w3.heap.size = gs at hbs HM4 hg4 ⊢
      have HM5 := Lib.hid (HM4.out.more ((Below.refl _ _).alloc (Nat.le_refl _) (.cells #[.slice (some ⟨gs, 0, none⟩) i i] 32)) (Box.new w4 _ _))
      have HB5 := Lib.hid (HB4.out.alloc HB4.out.size (.cells #[.slice (some ⟨gs, 0, none⟩) i i] 32))
      generalize w4.alloc (.cells #[.slice (some ⟨gs, 0, none⟩) i i] 32) = w5 at HM5 HB5 ⊢
      clear HM4 HB4
      generalize w4.heap.size = bs at hg4 HM5 ⊢
      have hba : bs < w5.heap.size := (HM5.out.box (bs, _) (List.mem_cons_self)).elim fun _ h => heap_lt h
      go_upto_region 11 with fail
      have HM6 := Lib.hid (HM5.out.more ((Below.refl _ _).alloc (Nat.le_refl _) (.cells #[.func (.func 76) #[] #[.pointer (some ⟨w5.heap.size, 0, none⟩), .pointer (some ⟨bs, 0, none⟩), .pointer (some ⟨bp, 0, none⟩), .pointer (some ⟨bc, 0, none⟩)]] 119)) (Box.new w5 _ _))
      have HB6 := Lib.hid (HB5.out.alloc HB5.out.size (.cells #[.func (.func 76) #[] #[.pointer (some ⟨w5.heap.size, 0, none⟩), .pointer (some ⟨bs, 0, none⟩), .pointer (some ⟨bp, 0, none⟩), .pointer (some ⟨bc, 0, none⟩)]] 119))
      generalize w5.alloc (.cells #[.func (.func 76) #[] #[.pointer (some ⟨w5.heap.size, 0, none⟩), .pointer (some ⟨bs, 0, none⟩), .pointer (some ⟨bp, 0, none⟩), .pointer (some ⟨bc, 0, none⟩)]] 119) = w6 at HM6 HB6 ⊢
      clear HM5 HB5
      generalize w5.heap.size = ba at hba HM6 ⊢
      obtain rfl := HLL.out
      obtain rfl := HN.out
      have HC := Lib.hid (sort_ready w o rev dirs l a cap b1 b2 b3 gp bp bc gs bs ba w6 HLt.out ⟨hg1, hbc, hbs, hg4, hba⟩ HH.out hl HZ.out HM6.out HB6.out)
      have c1 : w6.cell? ⟨ba, 0, none⟩ = some (.func (.func 76) #[] #[.pointer (some ⟨ba, 0, none⟩), .pointer (some ⟨bs, 0, none⟩), .pointer (some ⟨bp, 0, none⟩), .pointer (some ⟨bc, 0, none⟩)]) := HC.out.2.xa.cell
      have c2 : w6.cell? ⟨bp, 0, none⟩ = some (.slice (some ⟨gp, 0, none⟩) l.length l.length) := HC.out.2.xp.cell
      clear HM6 HB6 HLL HN hin hi e1
      go_wp2_with fail
      refine (arr_all _ HC.out.1 w6 HC.out.2).mono ?_
      rintro e w7 ⟨v7, r, X, rfl, hso, hsi⟩
      have HS7 := Lib.hid hsi
      have HO7 := Lib.hid hso
      clear hso hsi c1 c2 HC
      have c2 : w7.cell? ⟨bp, 0, none⟩ = some (.slice (some ⟨gp, 0, none⟩) l.length l.length) := HS7.out.xp.cell
      go_wp2_with fail
      go_ret
      exact ⟨_, r, rfl, HO7.out.range, by rw [← natsV_ints]; exact row_owns (Nat.le_of_lt HLt.out.1) HS7.out.pl (by rw [natsV_len]; exact HS7.out.lz) (by unfold maxLen; omega), HS7.out.low⟩
end Go.Proofs.YtcjbnjoomgagjaaGreatDoor.O
namespace Go.Proofs.YtcjbnjoomgagjaaGreatDoor.O
open Go.Proofs.YtcjbnjoomgagjaaGreatDoor.B
open Go.RowKit
def PT (w : World) : Prop := True
theorem PT.keep {w w' : World} (h : PT w) (hb : Below w.heap.size w w') : PT w' := h
theorem tab_of {P Q : Prop} {W : World} (h : P) (h2 : Q) : PT W := trivial
theorem over_any (a b : ByteArray) (w : World) (hp : PT w) (ha : a.size ≤ 60000) (hb : b.size ≤ 60000) :
    Calls Tryz.prog 94 #[.string a, .string b] w fun e w' => e = .returned (.int .i64 (verL a.data.toList b.data.toList)) ∧ Below w.heap.size w w' := over_any' a b w ha hb
theorem osort_any (o : Int) (rev dirs : Bool) (l : List Ky) (a : Option Addr) (cap : Nat) (w : World) (hp : PT w) (H : IsKeys w a l) (hl : l.length ≤ 1000) (hz : ∀ c ∈ l, c.name.size ≤ 60000) :
    Calls Tryz.prog 56 #[.int .i64 o, .bool rev, .bool dirs, .slice a l.length cap] w fun e w' => ∃ v p, e = .returned v ∧ Sorted (soC o rev dirs) l p ∧ w'.ownsRow w.heap.size 3 1 v l.length (ints (p.map fun i : Nat => (i : Int))) ∧ Below w.heap.size w w' := psort_any o rev dirs l a cap w H hl hz
end Go.Proofs.YtcjbnjoomgagjaaGreatDoor.O
namespace Go.Proofs.YtcjbnjoomgagjaaGreatDoor.G
open Go.RowKit
theorem made_rows {α : Type} {f : α → List Value} {k : Nat} (hk : ∀ x, (f x).length = k) (h0 : 0 < k) (x : α) (n : Nat) : (madeCells (f x).toArray (n * k)).toList = rowsC f (List.replicate n x) := by
  apply List.ext_getElem?
  intro m
  by_cases hm : m < n * k
  · have h1 : (rowsC f (List.replicate n x))[m / k * k + m % k]? = (f x)[m % k]? := rowsC_get hk _ _ _ x (by rw [List.getElem?_replicate, if_pos (Nat.div_lt_of_lt_mul (by rw [Nat.mul_comm]; exact hm))]) (Nat.mod_lt _ h0)
    rw [Nat.div_add_mod' m k] at h1
    rw [h1]
    have h2 : m % k < (f x).length := by rw [hk]; exact Nat.mod_lt _ h0
    simp [madeCells, hm, hk]
    rw [List.getElem?_eq_getElem h2]
    rfl
  · have h1 : (rowsC f (List.replicate n x)).length = n * k := by rw [rowsC_len hk, List.length_replicate]
    have h3 : (madeCells (f x).toArray (n * k)).toList.length = n * k := by simp [madeCells]
    rw [List.getElem?_eq_none (by rw [h3]; omega), List.getElem?_eq_none (by rw [h1]; omega)]
def keyOf (e : Ent) : O.Ky := ⟨e.1, 0, 0, false⟩
def keyC (c : O.Ky) : List Value := [.string c.name, .int .i64 c.size, .int .i64 c.time, .bool c.dir]
theorem keyC_len (c : O.Ky) : (keyC c).length = 4 := rfl
def keysL (l : List Ent) (i : Nat) : List O.Ky := (l.take i).map keyOf ++ List.replicate (l.length - i) O.noKy
theorem keysL_len {l : List Ent} {i : Nat} (h : i ≤ l.length) : (keysL l i).length = l.length := by
  unfold keysL
  rw [List.length_append, List.length_map, List.length_take, List.length_replicate]
  omega
theorem keysL_at {l : List Ent} {i : Nat} (h : i < l.length) : (keysL l i)[i]? = some O.noKy := by
  unfold keysL
  rw [List.getElem?_append_right (by rw [List.length_map, List.length_take]; omega), List.getElem?_replicate, if_pos (by rw [List.length_map, List.length_take]; omega)]
theorem keysL_next {l : List Ent} {i : Nat} {e : Ent} (he : l[i]? = some e) : (keysL l i).set i (keyOf e) = keysL l (i + 1) := by
  have h := (List.getElem?_eq_some_iff.1 he).1
  unfold keysL
  rw [List.set_append_right _ _ (by rw [List.length_map, List.length_take]; omega), show i - ((l.take i).map keyOf).length = 0 by rw [List.length_map, List.length_take]; omega]
  obtain ⟨m, hm⟩ : ∃ m, l.length - i = m + 1 := ⟨l.length - i - 1, by omega⟩
  rw [hm, List.replicate_succ, List.set_cons_zero, show l.length - (i + 1) = m by omega, take_snoc he, List.map_append, List.append_assoc]
  rfl
theorem keysL_all (l : List Ent) : keysL l l.length = l.map keyOf := by
  unfold keysL
  rw [List.take_length, Nat.sub_self, List.replicate_zero, List.append_nil]
def noEnt : Ent := (⟨#[]⟩, 0)
def toldL (l : List Ent) (p : List Nat) (i : Nat) : List Ent := (p.take i).map (atE l) ++ List.replicate (l.length - i) noEnt
theorem toldL_next {l : List Ent} {p : List Nat} {i k : Nat} (hp : p.length = l.length) (hk : p[i]? = some k) : (toldL l p i).set i (atE l k) = toldL l p (i + 1) := by
  have h := (List.getElem?_eq_some_iff.1 hk).1
  unfold toldL
  rw [List.set_append_right _ _ (by rw [List.length_map, List.length_take]; omega), show i - ((p.take i).map (atE l)).length = 0 by rw [List.length_map, List.length_take]; omega]
  obtain ⟨m, hm⟩ : ∃ m, l.length - i = m + 1 := ⟨l.length - i - 1, by omega⟩
  rw [hm, List.replicate_succ, List.set_cons_zero, show l.length - (i + 1) = m by omega, show p.take (i + 1) = p.take i ++ [k] by rw [List.take_add_one, hk]; rfl, List.map_append, List.append_assoc]
  rfl
theorem toldL_len {l : List Ent} {p : List Nat} {i : Nat} (hp : p.length = l.length) (h : i ≤ l.length) : (toldL l p i).length = l.length := by
  unfold toldL
  rw [List.length_append, List.length_map, List.length_take, List.length_replicate]
  omega
theorem toldL_all {l : List Ent} {p : List Nat} (hp : p.length = l.length) : toldL l p l.length = p.map (atE l) := by
  unfold toldL
  rw [← hp, List.take_length, hp, Nat.sub_self, List.replicate_zero, List.append_nil]
theorem told_sorted {l : List Ent} {p : List Nat} (hd : DiffE l) (hp : O.Sorted (O.soC 0 false false) (l.map keyOf) p) : p.map (atE l) = sortE l := by
  unfold O.Sorted at hp
  rw [List.length_map] at hp
  refine places_sorted hd hp fun i k hi hk ha hik => ?_
  have hat : ∀ j, j < l.length → (l.map keyOf).getD j O.noKy = keyOf (atE l j) := fun j hj => by
    unfold atE
    rw [List.getD_eq_getElem?_getD, List.getD_eq_getElem?_getD, List.getElem?_map, List.getElem?_eq_getElem hj]
    rfl
  unfold O.aheadL at ha
  rw [hat i hi, hat k hk] at ha
  have hc : ∀ a b : Ent, O.soC 0 false false (keyOf a) (keyOf b) ≤ 0 → enC a b ≤ 0 := fun a b h => by
    have e : O.soC 0 false false (keyOf a) (keyOf b) = enC a b := by
      unfold O.soC O.thenC
      rw [if_pos (show O.dirC false (keyOf a) (keyOf b) = 0 from rfl)]
      unfold O.revC O.cmpK O.thenC
      rw [if_neg (by decide), if_pos (show O.ordC 0 (keyOf a) (keyOf b) = 0 from by unfold O.ordC; simp)]
      rfl
    rw [← e]; exact h
  simp only [Bool.or_eq_true, decide_eq_true_eq, Bool.and_eq_true] at ha
  rcases ha with h | ⟨h, _⟩
  · exact hc _ _ (by omega)
  · exact hc _ _ (by omega)
theorem infoKey : (Tryz.prog.info? 107).map (fun i => (i.zero, i.size, i.bytes)) = some (some (.agg #[.string ⟨#[]⟩, .int .i64 0, .int .i64 0, .bool false]), 4, 40) := by kernel_rfl
def KeyRel (l : List Ent) (gk : Nat) (b : Nat) (W0 : World) (v : Value) (wr : World) : Prop :=
  ∃ i : Nat, i ≤ l.length ∧ v = .int .i64 (i : Int) ∧ Hid (wr.ownsRow b 107 4 (.slice (some ⟨gk, 0, none⟩) l.length l.length) l.length (rowsC keyC (keysL l i))) ∧ Hid (Below b W0 wr)
def ToldRel (l : List Ent) (p : List Nat) (gt b b6 : Nat) (vp : Value) (W0 : World) (v : Value) (wr : World) : Prop :=
  ∃ i : Nat, i ≤ l.length ∧ v = .int .i64 (i : Int) ∧ Hid (wr.ownsRow b 81 2 (.slice (some ⟨gt, 0, none⟩) l.length l.length) l.length (rowsC enC' (toldL l p i))) ∧ Hid (wr.ownsRow b6 3 1 vp l.length (O.ints (p.map fun i : Nat => (i : Int)))) ∧ Hid (Below b W0 wr)
set_option maxRecDepth 100000 in
set_option maxHeartbeats 8000000 in
theorem sorted_any (v : Value) (l : List Ent) (b : Nat) (w : World) (H : w.ownsRow b 81 2 v l.length (rowsC enC' l)) (hl : l.length ≤ 1000) (hd : DiffE l) (hz : ∀ e ∈ l, e.1.size ≤ 60000) :
    Calls Tryz.prog 34 #[v] w fun x w' => ∃ u, x = .returned u ∧ w'.ownsRow w.heap.size 81 2 u (sortE l).length (rowsC enC' (sortE l)) ∧ Below w.heap.size w w' := by
  obtain ⟨k0, hk0, kz0, kz1, kz2⟩ := info_parts infoKey
  obtain ⟨e0, he0, ez0, ez1, ez2⟩ := info_parts infoEnt
  have HD := Lib.hid hd
  have HZ := Lib.hid hz
  have HH := Lib.hid H
  obtain ⟨ao, cap, rfl⟩ := B.owns_form H
  clear H hd hz
  go_enter Tryz.func34, Tryz.ntmps34
  go_upto_region 2 with (at_make; go_loud (refine wpList_make_full _ rfl (.tmp 10) (.tmp 10) 105 rfl w.heap.size 107 k0 (.agg #[.string ⟨#[]⟩, .int .i64 0, .int .i64 0, .bool false]) 4 Tryz.underlying105 hk0 kz0 kz1 .i64 .i64 _ _ l.length rfl rfl rfl rfl (by rw [kz2]; omega) (by unfold maxLen; omega) (Nat.le_refl _) ?_; intro w1 hown hgrow))
  have hmk := made_rows (f := keyC) keyC_len (by decide) O.noKy l.length
  have HK1 := Lib.hid (show w1.ownsRow w.heap.size 107 4 (.slice (some ⟨w.heap.size, 0, none⟩) l.length l.length) l.length (rowsC keyC (keysL l 0)) from by
    have e : keysL l 0 = List.replicate l.length O.noKy := rfl
    rw [e, ← hmk]; exact hown)
  have HB1 := Lib.hid ((Below.refl w.heap.size w).grown hgrow (Nat.le_refl _) (fun j hj => by cases hj))
  clear hown hgrow hmk
  have HLk := Lib.hid (show w.heap.size < w1.heap.size from (HK1.out.lt _ rfl).2)
  go_wp2_with fail
  go_loopw [14] (KeyRel l w.heap.size w.heap.size w) (fun v _ => l.length - (intOf v).toNat)
  case atStart => exact ⟨0, Nat.zero_le _, rfl, HK1, HB1⟩
  case round =>
    clear HK1 HB1 HLk
    obtain ⟨i, hi, rfl, HK, HB⟩ := hrel
    have HW := Lib.hid (B.owns_to HH.out HB.out)
    by_cases hlt : i < l.length
    · have d1 : decide ((i : Int) < (l.length : Int)) = true := decide_eq_true (by omega)
      obtain ⟨e, he⟩ : ∃ e, l[i]? = some e := ⟨_, List.getElem?_eq_getElem hlt⟩
      have HE := Lib.hid he
      obtain ⟨g, c2, hv, _, _⟩ := B.owns_some HW.out (by omega)
      simp only [Value.slice.injEq] at hv
      obtain ⟨rfl, _, rfl⟩ := hv
      have r0 : wr.cell? ⟨g, i * 2, none⟩ = some (.string e.1) := B.owns_cell HW.out ((rowsC_get enC'_len _ _ 0 _ he (by decide)).trans rfl)
      have r1 : wr.cell? ⟨g, i * 2 + 1, none⟩ = some (.int .i64 e.2) := B.owns_cell HW.out ((rowsC_get enC'_len _ _ 1 _ he (by decide)).trans rfl)
      clear he
      go_upto_region 5 with fail
      have HX2 := Lib.hid (heap_alloc_new wr (.cells #[.string e.1, .int .i64 e.2] 81))
      have HB2 := Lib.hid ((Below.refl wr.heap.size wr).alloc (Nat.le_refl _) (.cells #[.string e.1, .int .i64 e.2] 81))
      generalize wr.alloc (.cells #[.string e.1, .int .i64 e.2] 81) = w2 at HX2 HB2 ⊢
      have HK2 := Lib.hid (B.owns_to HK.out HB2.out)
      have HL2 := Lib.hid (HB.out.trans (HB2.out.mono HB.out.size))
      clear r0 r1 HB2 HK HB HW
      generalize wr.heap.size = B4 at HX2 ⊢
      have q0 : w2.cell? ⟨B4, 0, none⟩ = some (.string e.1) := by rw [cell_of_row _ _ _ _ _ _ HX2.out]; rfl
      have n0 : w2.cell? ⟨w.heap.size, i * 4, none⟩ = some (.string ⟨#[]⟩) := B.owns_cell HK2.out ((rowsC_get keyC_len _ _ 0 _ (keysL_at hlt) (by decide)).trans rfl)
      have f0 : w2.frozen? ⟨w.heap.size, i * 4, none⟩ = false := B.owns_frozen HK2.out _
      have HK3 := Lib.hid (show (w2.setCell ⟨w.heap.size, i * 4, none⟩ (.string e.1)).ownsRow w.heap.size 107 4 (.slice (some ⟨w.heap.size, 0, none⟩) l.length l.length) l.length (rowsC keyC (keysL l (i + 1))) from by
        have h1 := B.owns_setCell HK2.out (j := i * 4 + 0) (by rw [rowsC_len keyC_len, keysL_len hi]; omega) (.string e.1)
        rw [rowsC_set keyC_len (keysL l i) i 0 O.noKy (keyOf e) (.string e.1) (keysL_at hlt) (by decide) rfl, keysL_next HE.out] at h1
        exact h1)
      have HB3 := Lib.hid (HL2.out.setCell (p := ⟨w.heap.size, i * 4, none⟩) (Nat.le_refl _) (.string e.1))
      go_wp2_with fail
      go_roundw
      case rel => exact ⟨i + 1, by omega, by simp, HK3, HB3⟩
      case measure => simp [intOf]; omega
    · have d1 : decide ((i : Int) < (l.length : Int)) = false := decide_eq_false (by omega)
      obtain rfl : i = l.length := by omega
      rw [keysL_all] at HK
      go_upto_region 8 with (at_make; go_loud (refine wpList_make_full _ rfl (.tmp 27) (.tmp 27) 45 rfl w.heap.size 81 e0 (.agg #[.string ⟨#[]⟩, .int .i64 0]) 2 Tryz.underlying45 he0 ez0 ez1 .i64 .i64 _ _ l.length rfl rfl rfl rfl (by rw [ez2]; omega) (by unfold maxLen; omega) HB.out.size ?_; intro w4 hown hgrow))
      have hmk := made_rows (f := enC') enC'_len (by decide) noEnt l.length
      have HT4 := Lib.hid (fun p => show w4.ownsRow w.heap.size 81 2 (.slice (some ⟨wr.heap.size, 0, none⟩) l.length l.length) l.length (rowsC enC' (toldL l p 0)) from by
        have e : toldL l p 0 = List.replicate l.length noEnt := rfl
        rw [e, ← hmk]; exact hown)
      have HB4 := Lib.hid (HB.out.grown hgrow HB.out.size (fun j hj => by cases hj))
      have HK4 := Lib.hid (HK.out.kept hgrow (.inr (by intro q; cases q)))
      clear hown hgrow hmk HK HB HW
      generalize wr.heap.size = gt at HT4 ⊢
      have HIs := Lib.hid (show O.IsKeys w4 (some ⟨w.heap.size, 0, none⟩) (l.map keyOf) from .inr ⟨w.heap.size, 0, rfl, (HK4.out.lt _ rfl).2, fun k c hk j v hj => by
        rw [Nat.zero_add]
        exact B.owns_cell HK4.out ((rowsC_get keyC_len _ k j c hk (List.getElem?_eq_some_iff.1 hj).1).trans hj)⟩)
      have HSo := Lib.hid (O.osort_any 0 false false (l.map keyOf) (some ⟨w.heap.size, 0, none⟩) l.length w4 trivial HIs.out (by rw [List.length_map]; omega) (fun c hc => by
        obtain ⟨e, he, rfl⟩ := List.mem_map.1 hc
        exact HZ.out e he))
      rw [List.length_map] at HSo
      go_wp2_with fail
      refine HSo.out.mono ?_
      rintro x w5 ⟨vp, p, rfl, hso, hown, hb5⟩
      have HSp := Lib.hid hso
      have HP5 := Lib.hid hown
      have HT5 := Lib.hid (B.owns_to (HT4.out p) hb5)
      have HB5 := Lib.hid (HB4.out.trans (hb5.mono HB4.out.size))
      clear hso hown hb5 HSo HIs HK4 HT4 HB4
      have hpl : p.length = l.length := by
        have := HSp.out.length
        rwa [List.length_map] at this
      obtain ⟨po, pc, rfl⟩ := B.owns_form HP5.out
      generalize w4.heap.size = b6 at HP5
      go_wp2_with fail
      go_loopw [32] (ToldRel l p gt w.heap.size b6 (.slice po l.length pc) w) (fun v _ => l.length - (intOf v).toNat)
      case atStart => exact ⟨0, Nat.zero_le _, rfl, HT5, HP5, HB5⟩
      case round =>
        clear HT5 HP5 HB5 hi hlt d1
        obtain ⟨j, hj, rfl, HT, HP, HB⟩ := hrel
        have HW := Lib.hid (B.owns_to HH.out HB.out)
        by_cases hjl : j < l.length
        · have d1 : decide ((j : Int) < (l.length : Int)) = true := decide_eq_true (by omega)
          obtain ⟨k, hk⟩ : ∃ k, p[j]? = some k := ⟨_, List.getElem?_eq_getElem (by omega)⟩
          have hkl : k < l.length := by
            have := HSp.out.lt (List.mem_of_getElem? hk)
            rwa [List.length_map] at this
          have hel : l[k]? = some (atE l k) := by
            unfold atE
            rw [List.getD_eq_getElem?_getD, List.getElem?_eq_getElem hkl]; rfl
          obtain ⟨gp, c3, hv3, _, _⟩ := B.owns_some HP.out (by omega)
          simp only [Value.slice.injEq] at hv3
          obtain ⟨rfl, _, rfl⟩ := hv3
          obtain ⟨g, c2, hv, _, _⟩ := B.owns_some HW.out (by omega)
          simp only [Value.slice.injEq] at hv
          obtain ⟨rfl, _, rfl⟩ := hv
          have r0 : wr.cell? ⟨g, k * 2, none⟩ = some (.string (atE l k).1) := B.owns_cell HW.out ((rowsC_get enC'_len _ _ 0 _ hel (by decide)).trans rfl)
          have r1 : wr.cell? ⟨g, k * 2 + 1, none⟩ = some (.int .i64 (atE l k).2) := B.owns_cell HW.out ((rowsC_get enC'_len _ _ 1 _ hel (by decide)).trans rfl)
          have p0 : wr.cell? ⟨gp, j, none⟩ = some (.int .i64 (k : Int)) := B.owns_cell HP.out (by unfold O.ints; rw [List.getElem?_map, List.getElem?_map, hk]; rfl)
          have hjZ : j < (toldL l p j).length := by rw [toldL_len hpl hj]; exact hjl
          have HT2 := Lib.hid (show (wr.setCells gt (j * 2) [.string (atE l k).1, .int .i64 (atE l k).2]).ownsRow w.heap.size 81 2 (.slice (some ⟨gt, 0, none⟩) l.length l.length) l.length (rowsC enC' (toldL l p (j + 1))) from by
            have h1 := owns_pair HT.out hjZ (atE l k)
            rwa [toldL_next hpl hk] at h1)
          have hgt := (HT.out.lt gt rfl).1
          have HB2 := Lib.hid (show Below w.heap.size w (wr.setCells gt (j * 2) [.string (atE l k).1, .int .i64 (atE l k).2]) from (HB.out.setCell (p := ⟨gt, j * 2, none⟩) hgt _).setCell (p := ⟨gt, j * 2 + 1, none⟩) hgt _)
          have hne : gp ≠ gt := fun e => by
            subst e
            obtain ⟨cu, q1⟩ := B.owns_type HP.out rfl
            obtain ⟨cu', q2⟩ := B.owns_type HT.out rfl
            rw [q1] at q2
            simp at q2
          have HP2 := Lib.hid (show (wr.setCells gt (j * 2) [.string (atE l k).1, .int .i64 (atE l k).2]).ownsRow b6 3 1 (.slice (some ⟨gp, 0, none⟩) l.length pc) l.length (O.ints (p.map fun i : Nat => (i : Int))) from B.owns_at HP.out fun m hm => by
            obtain rfl : gp = m := Option.some.inj hm
            exact (heap_setCell_other _ _ _ _ hne).trans (heap_setCell_other _ _ _ _ hne))
          have HTh := Lib.hid (show wr.there gt (j * 2) 2 from fun m hm => by
            obtain ⟨z, hz⟩ : ∃ z, (toldL l p j)[j]? = some z := ⟨_, List.getElem?_eq_getElem hjZ⟩
            refine ⟨?_, B.owns_frozen HT.out _⟩
            have : m = 0 ∨ m = 1 := by omega
            rcases this with rfl | rfl
            · rw [B.owns_cell HT.out ((rowsC_get enC'_len _ _ 0 _ hz (by decide)).trans rfl)]; rfl
            · rw [B.owns_cell HT.out ((rowsC_get enC'_len _ _ 1 _ hz (by decide)).trans rfl)]; rfl)
          clear hk hel hjZ hgt hne
          go_wp2_with (refine wpList_store_mid rfl 81 (.tmp 43) (.tmp 42) rfl gt (j * 2) #[.string (atE l k).1, .int .i64 (atE l k).2] rfl rfl HTh.out sizeEnt (by simp [Value.oneCell']) ?_)
          go_roundw
          case rel => exact ⟨j + 1, by omega, by simp, HT2, HP2, HB2⟩
          case measure => simp [intOf]; omega
        · have d1 : decide ((j : Int) < (l.length : Int)) = false := decide_eq_false (by omega)
          obtain rfl : j = l.length := by omega
          rw [toldL_all hpl, told_sorted HD.out HSp.out] at HT
          have HLn := Lib.hid (show (sortE l).length = l.length from (sortE_perm l).length_eq)
          go_wp2_with fail
          go_ret
          exact ⟨_, rfl, by rw [HLn.out]; exact HT.out, HB.out⟩
end Go.Proofs.YtcjbnjoomgagjaaGreatDoor.G
