/-
  What the reference's device makes: a first directory at the end of its nodes. Conditions: at most 1000000 nodes and devices.
-/
import Derived.Test.YtknfhphhcnbndaaGreatDoorGVRefAdd
set_option linter.unusedVariables false
set_option linter.unusedSimpArgs false
namespace Go.Proofs.YtknfhphhcnbndaaGreatDoor.V
open Go.RowKit

/-- What device has in hand: its box of the file system, its result's place. -/
structure DBox (w wr : World) (v : Rv) : Prop where
  below : Below w.heap.size w wr
  box : wr.heap[w.heap.size]? = some (.cells #[v.n, v.l, v.c, v.d, v.a, v.f] 31 (0, 0))
  res : wr.heap[w.heap.size + 1]? = some (.cells nilsR 31 (0, 0))
theorem DBox.but {w wr w' : World} {v v' : Rv} (h : DBox w wr v) (hb : But w.heap.size wr w') (hx : w'.heap[w.heap.size]? = some (.cells #[v'.n, v'.l, v'.c, v'.d, v'.a, v'.f] 31 (0, 0))) : DBox w w' v' :=
  ⟨hb.below h.below (Nat.le_refl _) h.below.size, hx, (hb.block _ (heap_lt h.res) (by omega)).trans h.res⟩
theorem DBox.begin (w : World) (v : Rv) : DBox w ((w.alloc (.cells #[v.n, v.l, v.c, v.d, v.a, v.f] 31)).alloc (.cells nilsR 31)) v :=
  ⟨((Below.refl _ _).alloc (Nat.le_refl _) _).alloc (by simp) _, heap_alloc2_old _ _ _, heap_alloc2_new _ _ _⟩
theorem one_b {wr w1 : World} {x : Value} {e : TypeId} {row : Option Nat} {o : Obj} (hg : ((wr.alloc o).alloc (.cells #[x] e)).grownBy w1 row) (hne : row ≠ some (wr.heap.size + 1)) : w1.ownsRow 0 e 1 (.slice (some ⟨wr.heap.size + 1, 0, none⟩) 1 1) 1 [x] := by
  have h := owns_single (W := wr.alloc o) (e := e) (xs := [x]) 1 rfl
  have q : (wr.alloc o).heap.size = wr.heap.size + 1 := by simp
  rw [q] at h
  exact grown_owns h hg hne
theorem one_c {wr w1 : World} {x : Value} {e : TypeId} {row : Option Nat} {o : Obj} (hg : ((wr.alloc (.cells #[x] e)).alloc o).grownBy w1 row) (hne : row ≠ some wr.heap.size) : w1.ownsRow 0 e 1 (.slice (some ⟨wr.heap.size, 0, none⟩) 1 1) 1 [x] :=
  grown_owns ((owns_single (W := wr) (e := e) (xs := [x]) 1 rfl).alloc o) hg hne
/-- Behind the firsts' appends. -/
def RD1 (w wr : World) (F : List Int) (m : Int) (v : Rv) (wx : World) : Prop :=
  ∃ g cap, DBox w wx { v with f := .slice (some ⟨g, 0, none⟩) (F.length + 1) cap } ∧ wx.ownsRow 0 3 1 (.slice (some ⟨g, 0, none⟩) (F.length + 1) cap) (F.length + 1) (ints F ++ [.int .i64 m]) ∧ But w.heap.size wr wx
theorem rd1_a {w wr w1 w2 : World} {F : List Int} {m : Int} {v : Rv} {v1 : Value} {g cap : Nat} {o : Obj} (H : DBox w wr v) (hg1 : (wr.alloc (.cells #[] 3)).grownBy w1 (Value.slice (some ⟨wr.heap.size, 0, none⟩) 0 0).ownBlock)
    (h1 : w1.ownsRow wr.heap.size 3 1 v1 (0 + F.length) ([] ++ ints F)) (h2 : w2.ownsRow wr.heap.size 3 1 (.slice (some ⟨g, 0, none⟩) (0 + F.length + 1) cap) (0 + F.length + 1) ([] ++ ints F ++ [.int .i64 m])) (hg2 : (w1.alloc o).grownBy w2 v1.ownBlock) :
    w2.cell? ⟨w.heap.size, 5, none⟩ = some v.f ∧ w2.frozen? ⟨w.heap.size, 5, none⟩ = false ∧ RD1 w wr F m v (w2.setCell ⟨w.heap.size, 5, none⟩ (.slice (some ⟨g, 0, none⟩) (F.length + 1) cap)) := by
  obtain ⟨r1, r2, r3⟩ := app_two (k := 5) (v := .slice (some ⟨g, 0, none⟩) (F.length + 1) cap) hg1 hg2 (own_ge (owns_made (e := 3) (size := 1) (Nat.le_refl wr.heap.size))) (own_ge h1) H.box
  have hbl := heap_lt H.box
  rw [Nat.zero_add, List.nil_append] at h2
  refine ⟨by rw [cell_of_row _ _ _ _ _ _ r1]; rfl, frozen_of_row _ _ _ _ _ r1, g, cap, H.but r2 r3, owns_set h2 hbl, r2⟩
theorem rd1_b {w wr w1 w2 : World} {F : List Int} {m : Int} {v : Rv} {v1 d1 : Value} {g cap : Nat} {o o' : Obj} (H : DBox w wr v) (hg1 : ((wr.alloc o).alloc o').grownBy w1 d1.ownBlock) (hd : ∀ j, d1.ownBlock = some j → wr.heap.size ≤ j)
    (h1 : w1.ownsRow wr.heap.size 3 1 v1 (0 + F.length) ([] ++ ints F)) (h2 : w2.ownsRow wr.heap.size 3 1 (.slice (some ⟨g, 0, none⟩) (0 + F.length + 1) cap) (0 + F.length + 1) ([] ++ ints F ++ [.int .i64 m])) (hg2 : w1.grownBy w2 v1.ownBlock) :
    w2.cell? ⟨w.heap.size, 5, none⟩ = some v.f ∧ w2.frozen? ⟨w.heap.size, 5, none⟩ = false ∧ RD1 w wr F m v (w2.setCell ⟨w.heap.size, 5, none⟩ (.slice (some ⟨g, 0, none⟩) (F.length + 1) cap)) := by
  obtain ⟨r1, r2, r3⟩ := app_two' (k := 5) (v := .slice (some ⟨g, 0, none⟩) (F.length + 1) cap) hg1 hg2 hd (own_ge h1) H.box
  have hbl := heap_lt H.box
  rw [Nat.zero_add, List.nil_append] at h2
  refine ⟨by rw [cell_of_row _ _ _ _ _ _ r1]; rfl, frozen_of_row _ _ _ _ _ r1, g, cap, H.but r2 r3, owns_set h2 hbl, r2⟩

theorem step_store_row {ops : Array Oper} {o : Oper} {a : Act} {w : World} {K : Act → World → Prop} {Q : Exit → Act → World → Prop} {E : Prop} (hgd : o.guard = none) (ty : TypeId) (x y : Operand) (ho : o.op = .store ty x y)
    (g : Nat) (cells : Array Value) (hx : a.eval x = .pointer (some ⟨g, 0, none⟩)) (hy : a.eval y = .agg cells)
    (t : TypeId) (old : Array Value) (hg : w.heap[g]? = some (.cells old t (0, 0))) (hi : (Tryz.prog.info? ty).map (·.size) = some cells.size)
    (hold : old.size = cells.size) (h1 : cells.all (·.oneCell') = true) (h : K (a.put o.dst undef) (w.setRow g cells)) :
    if Region.wanted o (yielded ops a.tmps) = true then Oper.wp Tryz.prog o a w K Q else E := by
  have hw : Region.wanted o (yielded ops a.tmps) = true := by simp [Region.wanted, hgd]
  rw [if_pos hw]
  exact wp_store_row ty x y ho g cells hx hy t old hg hi hold h1 h
theorem but_setCell (W : World) (b k : Nat) (v : Value) : But b W (W.setCell ⟨b, k, none⟩ v) := ⟨rfl, rfl, rfl, by rw [size_setCell]; exact Nat.le_refl _, fun j hj hn => heap_setCell_other _ _ _ _ hn⟩
theorem But.trans {b : Nat} {w w' w'' : World} (h : But b w w') (g : But b w' w'') : But b w w'' := ⟨g.os.trans h.os, g.tape.trans h.tape, g.output.trans h.output, Nat.le_trans h.size g.size, fun k hk hn => (g.block k (Nat.lt_of_lt_of_le hk h.size) hn).trans (h.block k hk hn)⟩
/-- Six stores into a row of six. -/
theorem six {W : World} {b : Nat} {T : TypeId} {x0 x1 x2 x3 x4 x5 : Value} (y0 y1 y2 y3 y4 y5 : Value) (h : W.heap[b]? = some (.cells #[x0, x1, x2, x3, x4, x5] T (0, 0))) :
    W.cell? ⟨b, 0, none⟩ = some x0 ∧ W.frozen? ⟨b, 0, none⟩ = false ∧ (W.setCell ⟨b, 0, none⟩ y0).cell? ⟨b, 1, none⟩ = some x1 ∧ (W.setCell ⟨b, 0, none⟩ y0).frozen? ⟨b, 1, none⟩ = false ∧ ((W.setCell ⟨b, 0, none⟩ y0).setCell ⟨b, 1, none⟩ y1).cell? ⟨b, 2, none⟩ = some x2 ∧ ((W.setCell ⟨b, 0, none⟩ y0).setCell ⟨b, 1, none⟩ y1).frozen? ⟨b, 2, none⟩ = false ∧ (((W.setCell ⟨b, 0, none⟩ y0).setCell ⟨b, 1, none⟩ y1).setCell ⟨b, 2, none⟩ y2).cell? ⟨b, 3, none⟩ = some x3 ∧ (((W.setCell ⟨b, 0, none⟩ y0).setCell ⟨b, 1, none⟩ y1).setCell ⟨b, 2, none⟩ y2).frozen? ⟨b, 3, none⟩ = false ∧ ((((W.setCell ⟨b, 0, none⟩ y0).setCell ⟨b, 1, none⟩ y1).setCell ⟨b, 2, none⟩ y2).setCell ⟨b, 3, none⟩ y3).cell? ⟨b, 4, none⟩ = some x4 ∧ ((((W.setCell ⟨b, 0, none⟩ y0).setCell ⟨b, 1, none⟩ y1).setCell ⟨b, 2, none⟩ y2).setCell ⟨b, 3, none⟩ y3).frozen? ⟨b, 4, none⟩ = false ∧ (((((W.setCell ⟨b, 0, none⟩ y0).setCell ⟨b, 1, none⟩ y1).setCell ⟨b, 2, none⟩ y2).setCell ⟨b, 3, none⟩ y3).setCell ⟨b, 4, none⟩ y4).cell? ⟨b, 5, none⟩ = some x5 ∧ (((((W.setCell ⟨b, 0, none⟩ y0).setCell ⟨b, 1, none⟩ y1).setCell ⟨b, 2, none⟩ y2).setCell ⟨b, 3, none⟩ y3).setCell ⟨b, 4, none⟩ y4).frozen? ⟨b, 5, none⟩ = false ∧ ((((((W.setCell ⟨b, 0, none⟩ y0).setCell ⟨b, 1, none⟩ y1).setCell ⟨b, 2, none⟩ y2).setCell ⟨b, 3, none⟩ y3).setCell ⟨b, 4, none⟩ y4).setCell ⟨b, 5, none⟩ y5).heap[b]? = some (.cells #[y0, y1, y2, y3, y4, y5] T (0, 0)) ∧ But b W ((((((W.setCell ⟨b, 0, none⟩ y0).setCell ⟨b, 1, none⟩ y1).setCell ⟨b, 2, none⟩ y2).setCell ⟨b, 3, none⟩ y3).setCell ⟨b, 4, none⟩ y4).setCell ⟨b, 5, none⟩ y5) := by
  have g0 : (W.setCell ⟨b, 0, none⟩ y0).heap[b]? = some (.cells #[y0, x1, x2, x3, x4, x5] T (0, 0)) := heap_setCell_same _ _ 0 _ _ y0 h
  have g1 : ((W.setCell ⟨b, 0, none⟩ y0).setCell ⟨b, 1, none⟩ y1).heap[b]? = some (.cells #[y0, y1, x2, x3, x4, x5] T (0, 0)) := heap_setCell_same _ _ 1 _ _ y1 g0
  have g2 : (((W.setCell ⟨b, 0, none⟩ y0).setCell ⟨b, 1, none⟩ y1).setCell ⟨b, 2, none⟩ y2).heap[b]? = some (.cells #[y0, y1, y2, x3, x4, x5] T (0, 0)) := heap_setCell_same _ _ 2 _ _ y2 g1
  have g3 : ((((W.setCell ⟨b, 0, none⟩ y0).setCell ⟨b, 1, none⟩ y1).setCell ⟨b, 2, none⟩ y2).setCell ⟨b, 3, none⟩ y3).heap[b]? = some (.cells #[y0, y1, y2, y3, x4, x5] T (0, 0)) := heap_setCell_same _ _ 3 _ _ y3 g2
  have g4 : (((((W.setCell ⟨b, 0, none⟩ y0).setCell ⟨b, 1, none⟩ y1).setCell ⟨b, 2, none⟩ y2).setCell ⟨b, 3, none⟩ y3).setCell ⟨b, 4, none⟩ y4).heap[b]? = some (.cells #[y0, y1, y2, y3, y4, x5] T (0, 0)) := heap_setCell_same _ _ 4 _ _ y4 g3
  have g5 : ((((((W.setCell ⟨b, 0, none⟩ y0).setCell ⟨b, 1, none⟩ y1).setCell ⟨b, 2, none⟩ y2).setCell ⟨b, 3, none⟩ y3).setCell ⟨b, 4, none⟩ y4).setCell ⟨b, 5, none⟩ y5).heap[b]? = some (.cells #[y0, y1, y2, y3, y4, y5] T (0, 0)) := heap_setCell_same _ _ 5 _ _ y5 g4
  exact ⟨(cell_of_row _ _ 0 _ _ _ h).trans rfl, frozen_of_row _ _ _ _ _ h, (cell_of_row _ _ 1 _ _ _ g0).trans rfl, frozen_of_row _ _ _ _ _ g0, (cell_of_row _ _ 2 _ _ _ g1).trans rfl, frozen_of_row _ _ _ _ _ g1, (cell_of_row _ _ 3 _ _ _ g2).trans rfl, frozen_of_row _ _ _ _ _ g2, (cell_of_row _ _ 4 _ _ _ g3).trans rfl, frozen_of_row _ _ _ _ _ g3, (cell_of_row _ _ 5 _ _ _ g4).trans rfl, frozen_of_row _ _ _ _ _ g4, g5, ((((((but_setCell _ _ _ _).trans (but_setCell _ _ _ _)).trans (but_setCell _ _ _ _)).trans (but_setCell _ _ _ _)).trans (but_setCell _ _ _ _)).trans (but_setCell _ _ _ _))⟩
theorem rv_one {wx : World} {v : Rv} {mN mL mC mD mA mF : Nat} {xN xL xC xD xA xF : List Value} (h : ROwn wx v mN xN mL xL mC xC mD xD mA xA mF xF) : (#[v.n, v.l, v.c, v.d, v.a, v.f] : Array Value).all (·.oneCell') = true := by
  obtain ⟨an, cn, al, cl, ac, cc, ad, cd, aa, ca, af, cf, rfl⟩ := rown_forms h
  exact one6 _ _ _ _ _ _ _ _ _ _ _ _ _ _ _ _ _ _
theorem But.rown {b : Nat} {w w' : World} (h : But b w w') {v : Rv} {mN mL mC mD mA mF : Nat} {xN xL xC xD xA xF : List Value} {arr : Array Value} (hb : w.heap[b]? = some (.cells arr 31 (0, 0))) (H : ROwn w v mN xN mL xL mC xC mD xD mA xA mF xF) : ROwn w' v mN xN mL xL mC xC mD xD mA xA mF xF :=
  ⟨h.owns H.1 hb (by decide), h.owns H.2.1 hb (by decide), h.owns H.2.2.1 hb (by decide), h.owns H.2.2.2.1 hb (by decide), h.owns H.2.2.2.2.1 hb (by decide), h.owns H.2.2.2.2.2 hb (by decide)⟩
def dirAt (k : Nat) (m up : Int) : Nd := { dirNd (m % 4096) up with dev := (k : Int) }

set_option maxRecDepth 100000 in
set_option maxHeartbeats 4000000 in
theorem rdev_any (M : List Nd) (L : List It) (v : Rv) (m up : Int) (w : World) (F : List Int) (H : ROwn w v M.length (bares M) L.length (itCells L) M.length (covs M 0) M.length (deads M) M.length (ups M) F.length (ints F)) (hM : M.length ≤ 1000000) (hF : F.length ≤ 1000000) :
    Calls Tryz.prog 86 #[rvV v, .int .i64 m, .int .i64 up] w fun e w' => ∃ v', e = .returned (rvV v') ∧ ROwn w' v' (M.length + 1) (bares M ++ (addedNd (dirAt (F.length + 1) m up) (dirAt (F.length + 1) m up).dev M).bare) L.length (itCells L) (M.length + 1) (covs M 0 ++ [.int .i64 (-1)]) (M.length + 1) (deads M ++ [.bool false]) (M.length + 1) (ups M ++ [.int .i64 up]) (F.length + 1) (ints F ++ [.int .i64 (M.length : Int)]) ∧ Below w.heap.size w w' := by
  obtain ⟨an, cn, al, cl, ac, cc, ad, cd, aa, ca, af, cf, rfl⟩ := rown_forms H
  have D0 := DBox.begin w ⟨.slice an M.length cn, .slice al L.length cl, .slice ac M.length cc, .slice ad M.length cd, .slice aa M.length ca, .slice af F.length cf⟩
  unfold nilsR at D0
  unfold rvV
  go_enter Tryz.func86, Tryz.ntmps86
  go_wp2
  generalize (w.alloc (.cells #[.slice an M.length cn, .slice al L.length cl, .slice ac M.length cc, .slice ad M.length cd, .slice aa M.length ca, .slice af F.length cf] 31)).alloc (.cells #[.slice none 0 0, .slice none 0 0, .slice none 0 0, .slice none 0 0, .slice none 0 0, .slice none 0 0] 31) = wr at *
  have HH := Lib.hid H
  have HB2 := Lib.hid D0
  have HNb := Lib.hid (owns_keep H.2.2.2.2.2 D0.below)
  clear H D0
  obtain ⟨i0, hi, hz0, hz1, hz2⟩ := info_parts infoInt
  have HMX := Lib.hid (show 0 + F.length ≤ maxLen from by unfold maxLen; omega)
  have HMY := Lib.hid (show 0 + F.length + 1 ≤ maxLen from by unfold maxLen; omega)
  go_cut [] from 7 to 16 (fun wx => RD1 w wr F M.length ⟨.slice an M.length cn, .slice al L.length cl, .slice ac M.length cc, .slice ad M.length cd, .slice aa M.length ca, .slice af F.length cf⟩ wx)
  case first =>
    have hq0 : w.heap.size < wr.heap.size := heap_lt HB2.out.box
    have p0 : wr.cell? ⟨w.heap.size, 0, none⟩ = some (.slice an M.length cn) := by rw [cell_of_row _ _ _ _ _ _ HB2.out.box]; rfl
    have p5 : wr.cell? ⟨w.heap.size, 5, none⟩ = some (.slice af F.length cf) := by rw [cell_of_row _ _ _ _ _ _ HB2.out.box]; rfl
    have p0a : ∀ o, (wr.alloc o).cell? ⟨w.heap.size, 0, none⟩ = some (.slice an M.length cn) := fun o => (World.cell?_alloc_past _ _ _ hq0).trans p0
    have p5a : ∀ o, (wr.alloc o).cell? ⟨w.heap.size, 5, none⟩ = some (.slice af F.length cf) := fun o => (World.cell?_alloc_past _ _ _ hq0).trans p5
    have p0b : ∀ o o', ((wr.alloc o).alloc o').cell? ⟨w.heap.size, 0, none⟩ = some (.slice an M.length cn) := fun o o' => (World.cell?_alloc_past _ _ _ (by simp; omega)).trans (p0a o)
    have p5b : ∀ o o', ((wr.alloc o).alloc o').cell? ⟨w.heap.size, 5, none⟩ = some (.slice af F.length cf) := fun o o' => (World.cell?_alloc_past _ _ _ (by simp; omega)).trans (p5a o)
    have HS1 := Lib.hid (show ∀ o, (wr.alloc o).ownsRow 0 3 1 (.slice af F.length cf) F.length (ints F) from fun o => HNb.out.alloc o)
    have HS2 := Lib.hid (show ∀ o o', ((wr.alloc o).alloc o').ownsRow 0 3 1 (.slice af F.length cf) F.length (ints F) from fun o o' => (HNb.out.alloc o).alloc o')
    have HNX := Lib.hid (show ∀ W : World, W.heap[w.heap.size]? = some (.cells #[.slice an M.length cn, .slice al L.length cl, .slice ac M.length cc, .slice ad M.length cd, .slice aa M.length ca, .slice af F.length cf] 31 (0, 0)) → W.cell? ⟨w.heap.size, 0, none⟩ = some (.slice an M.length cn) from fun W hW => by rw [cell_of_row _ _ _ _ _ _ hW]; rfl)
    go_region_law (first
      | (refine step_append_row rfl (.tmp 7) (.tmp 9) 28 rfl wr.heap.size 3 i0 _ 1 8 Tryz.underlying28 hi hz0 hz1 hz2 rfl (by decide) (.slice (some ⟨wr.heap.size, 0, none⟩) 0 0) 0 [] (by simp [Act.eval, Act.put]) (owns_made (Nat.le_refl _)) (.slice af F.length cf) F.length (ints F) (by simp [Act.eval, Act.put]) (HS1.out _) (ints_one F) HMX.out (by omega) (by simp) ?_; intro v1 w1 hown1 hg1; have HGA := Lib.hid (undrew hg1); have HOA := Lib.hid hown1; have c0 := HNX.out _ ((grown_old hg1 (own_ge (owns_made (e := 3) (size := 1) (Nat.le_refl wr.heap.size))) (by simp; omega) hq0).trans ((heap_alloc_old _ _ hq0).trans HB2.out.box)); clear hown1 hg1)
      | (refine step_append_row rfl (.tmp 7) (.tmp 9) 28 rfl wr.heap.size 3 i0 _ 1 8 Tryz.underlying28 hi hz0 hz1 hz2 rfl (by decide) (.slice (some ⟨wr.heap.size, 0, none⟩) 0 0) 0 [] (by simp [Act.eval, Act.put]) ((owns_made (Nat.le_refl _)).alloc (.cells #[.int .i64 (M.length : Int)] 3)) (.slice af F.length cf) F.length (ints F) (by simp [Act.eval, Act.put]) (HS2.out (.cells #[] 3) (.cells #[.int .i64 (M.length : Int)] 3)) (ints_one F) HMX.out (by omega) (by simp <;> omega) ?_; intro v1 w1 hown1 hg1; have HGB := Lib.hid (undrew hg1); have HGD := Lib.hid (show ∀ j, (Value.slice (some ⟨wr.heap.size, 0, none⟩) 0 0).ownBlock = some j → wr.heap.size ≤ j from fun j => one_ge (Nat.le_refl _)); have HOB := Lib.hid hown1; have HEL := Lib.hid (one_b (x := .int .i64 (M.length : Int)) (undrew hg1) (by rw [own_some]; simp)); clear hown1 hg1)
      | (refine step_append_row rfl (.tmp 7) (.tmp 9) 28 rfl wr.heap.size 3 i0 _ 1 8 Tryz.underlying28 hi hz0 hz1 hz2 rfl (by decide) (.slice (some ⟨wr.heap.size + 1, 0, none⟩) 0 0) 0 [] (by simp [Act.eval, Act.put]) (own_c wr _) (.slice af F.length cf) F.length (ints F) (by simp [Act.eval, Act.put]) (HS2.out (.cells #[.int .i64 (M.length : Int)] 3) (.cells #[] 3)) (ints_one F) HMX.out (by omega) (by simp <;> omega) ?_; intro v1 w1 hown1 hg1; have HGB := Lib.hid (undrew hg1); have HGD := Lib.hid (show ∀ j, (Value.slice (some ⟨wr.heap.size + 1, 0, none⟩) 0 0).ownBlock = some j → wr.heap.size ≤ j from fun j => one_ge (by omega)); have HOB := Lib.hid hown1; have HEL := Lib.hid (one_c (x := .int .i64 (M.length : Int)) (undrew hg1) (by rw [own_some]; simp)); clear hown1 hg1)
      | (refine step_append_row rfl (.tmp 10) (.tmp 14) 28 rfl wr.heap.size 3 i0 _ 1 8 Tryz.underlying28 hi hz0 hz1 hz2 rfl (by decide) v1 (0 + F.length) ([] ++ ints F) (by simp [Act.eval, Act.put]) (HOA.out.alloc _) (.slice (some ⟨w1.heap.size, 0, none⟩) 1 1) 1 [.int .i64 (M.length : Int)] (by simp [Act.eval, Act.put]) (owns_single 1 rfl) (by intro u hu; simp at hu; subst hu; rfl) HMY.out (by omega) (by have := HGA.out.size; simp at this ⊢; omega) ?_; intro v2 w2 hown2 hg2; obtain ⟨g2, cap2, rfl, _, _⟩ := owns_some hown2 (by omega); have R := Lib.hid (rd1_a HB2.out HGA.out HOA.out hown2 hg2); have q2 := R.out.1; have q3 := R.out.2.1; clear hown2 hg2)
      | (refine step_append_row rfl (.tmp 10) (.tmp 14) 28 rfl wr.heap.size 3 i0 _ 1 8 Tryz.underlying28 hi hz0 hz1 hz2 rfl (by decide) v1 (0 + F.length) ([] ++ ints F) (by simp [Act.eval, Act.put]) HOB.out (.slice (some ⟨wr.heap.size + 1, 0, none⟩) 1 1) 1 [.int .i64 (M.length : Int)] (by simp [Act.eval, Act.put]) HEL.out (by intro u hu; simp at hu; subst hu; rfl) HMY.out (by omega) (by have := HGB.out.size; simp at this ⊢; omega) ?_; intro v2 w2 hown2 hg2; obtain ⟨g2, cap2, rfl, _, _⟩ := owns_some hown2 (by omega); have R := Lib.hid (rd1_b HB2.out HGB.out HGD.out HOB.out hown2 hg2); have q2 := R.out.1; have q3 := R.out.2.1; clear hown2 hg2)
      | (refine step_append_row rfl (.tmp 10) (.tmp 14) 28 rfl wr.heap.size 3 i0 _ 1 8 Tryz.underlying28 hi hz0 hz1 hz2 rfl (by decide) v1 (0 + F.length) ([] ++ ints F) (by simp [Act.eval, Act.put]) HOB.out (.slice (some ⟨wr.heap.size, 0, none⟩) 1 1) 1 [.int .i64 (M.length : Int)] (by simp [Act.eval, Act.put]) HEL.out (by intro u hu; simp at hu; subst hu; rfl) HMY.out (by omega) (by have := HGB.out.size; simp at this ⊢; omega) ?_; intro v2 w2 hown2 hg2; obtain ⟨g2, cap2, rfl, _, _⟩ := owns_some hown2 (by omega); have R := Lib.hid (rd1_b HB2.out HGB.out HGD.out HOB.out hown2 hg2); have q2 := R.out.1; have q3 := R.out.2.1; clear hown2 hg2))
    all_goals go_wp2
    all_goals go_meet
    all_goals exact R.out.2.2
  case rest =>
    obtain ⟨gf, kf, hbx, hon, hbut⟩ := hcut
    have hbox := HB2.out.box
    have HO := Lib.hid (show ROwn wc.drew ⟨.slice an M.length cn, .slice al L.length cl, .slice ac M.length cc, .slice ad M.length cd, .slice aa M.length ca, .slice (some ⟨gf, 0, none⟩) (F.length + 1) kf⟩ M.length (bares M) L.length (itCells L) M.length (covs M 0) M.length (deads M) M.length (ups M) (F ++ [(M.length : Int)]).length (ints (F ++ [(M.length : Int)])) from
      ⟨hbut.owns (owns_keep HH.out.1 HB2.out.below) hbox (by decide), hbut.owns (owns_keep HH.out.2.1 HB2.out.below) hbox (by decide), hbut.owns (owns_keep HH.out.2.2.1 HB2.out.below) hbox (by decide), hbut.owns (owns_keep HH.out.2.2.2.1 HB2.out.below) hbox (by decide), hbut.owns (owns_keep HH.out.2.2.2.2.1 HB2.out.below) hbox (by decide), by rw [List.length_append]; unfold ints; rw [List.map_append]; exact hon⟩)
    have HR := Lib.hid hbx
    have bx : ∀ j u, (#[.slice an M.length cn, .slice al L.length cl, .slice ac M.length cc, .slice ad M.length cd, .slice aa M.length ca, .slice (some ⟨gf, 0, none⟩) (F.length + 1) kf] : Array Value)[j]? = some u → wc.cell? ⟨w.heap.size, j, none⟩ = some u := fun j u hu => by rw [cell_of_row _ _ _ _ _ _ hbx.box]; exact hu
    have p0 := bx 0 _ rfl
    have p1 := bx 1 _ rfl
    have p2 := bx 2 _ rfl
    have p3 := bx 3 _ rfl
    have p4 := bx 4 _ rfl
    have p5 := bx 5 _ rfl
    clear hbx hon hbut hbox bx HB2 HNb
    go_wp2
    go_region_law (first
      | (go_simp; go_at_call 89; refine (bits_any m _).mono ?_; rintro e w1 ⟨rfl, rfl⟩)
      | (go_simp; go_at_call 88; refine (radd_any M L ⟨.slice an M.length cn, .slice al L.length cl, .slice ac M.length cc, .slice ad M.length cd, .slice aa M.length ca, .slice (some ⟨gf, 0, none⟩) (F.length + 1) kf⟩ (dirAt (F.length + 1) m up) up _ (F ++ [(M.length : Int)]) HO.out hM).mono ?_; rintro e w3 ⟨v3, rfl, ho3, hb3⟩; rw [List.length_append] at ho3; obtain ⟨an3, cn3, al3, cl3, ac3, cc3, ad3, cd3, aa3, ca3, af3, cf3, rfl⟩ := rown_forms ho3; unfold rvV; have HO3 := Lib.hid ho3; have HB3 := Lib.hid hb3; obtain ⟨t0, s0, t1, s1, t2, s2, t3, s3, t4, s4, t5, s5, h6, b6⟩ := six (.slice an3 (M.length + 1) cn3) (.slice al3 L.length cl3) (.slice ac3 (M.length + 1) cc3) (.slice ad3 (M.length + 1) cd3) (.slice aa3 (M.length + 1) ca3) (.slice af3 (F.length + 1) cf3) ((hb3.block _ (heap_lt HR.out.res)).trans HR.out.res); have H6 := Lib.hid h6; have B6 := Lib.hid b6; have HS3 := Lib.hid ((hb3.block _ (heap_lt HR.out.res)).trans HR.out.res); have HBL := Lib.hid (below_two (show Below w.heap.size w wc.drew from HR.out.below.drew) hb3); clear h6 b6; clear ho3 hb3))
    all_goals go_wp2
    all_goals refine bodyPost_ret (v := rvV ⟨.slice an3 (M.length + 1) cn3, .slice al3 L.length cl3, .slice ac3 (M.length + 1) cc3, .slice ad3 (M.length + 1) cd3, .slice aa3 (M.length + 1) ca3, .slice af3 (F.length + 1) cf3⟩) ?_ rfl ⟨⟨.slice an3 (M.length + 1) cn3, .slice al3 L.length cl3, .slice ac3 (M.length + 1) cc3, .slice ad3 (M.length + 1) cd3, .slice aa3 (M.length + 1) ca3, .slice af3 (F.length + 1) cf3⟩, rfl, ?_, ?_⟩
    all_goals first
      | exact results_cell_row Tryz.results86 _ _ (w.heap.size + 1) _ _ _ _ rfl H6.out Tryz.underlying31 rfl (by rw [sizeRef]; rfl)
      | (have R := But.rown B6.out HS3.out HO3.out; unfold ints at R ⊢; rw [List.map_append] at R; exact R)
      | exact B6.out.below HBL.out (by omega) HBL.out.size
end Go.Proofs.YtknfhphhcnbndaaGreatDoor.V
