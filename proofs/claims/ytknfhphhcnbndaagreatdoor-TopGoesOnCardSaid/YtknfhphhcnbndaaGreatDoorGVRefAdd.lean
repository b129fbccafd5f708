/-
  What the reference's add makes: a node at the end of its nodes. Conditions: at most 1000000 nodes.
-/
import Derived.Test.YtknfhphhcnbndaaGreatDoorGVAsk
import Derived.Deep.WholeRow
import Derived.Deep.MidRow
set_option linter.unusedSimpArgs false
set_option linter.unusedVariables false
namespace Go.Proofs.YtknfhphhcnbndaaGreatDoor.V
open Go.RowKit

def nilsR : Array Value := #[.slice none 0 0, .slice none 0 0, .slice none 0 0, .slice none 0 0, .slice none 0 0, .slice none 0 0]
/-- What add has in hand: its box of the file system, its box of the node, its result's place. -/
structure RBox (w wr : World) (v : Rv) (nb : List Value) : Prop where
  below : Below w.heap.size w wr
  box : wr.heap[w.heap.size]? = some (.cells #[v.n, v.l, v.c, v.d, v.a, v.f] 31 (0, 0))
  nbox : wr.heap[w.heap.size + 1]? = some (.cells nb.toArray 66 (0, 0))
  res : wr.heap[w.heap.size + 2]? = some (.cells nilsR 31 (0, 0))
theorem heap3 (w : World) (A B C : Obj) : (((w.alloc A).alloc B).alloc C).heap[w.heap.size]? = some A ∧ (((w.alloc A).alloc B).alloc C).heap[w.heap.size + 1]? = some B ∧ (((w.alloc A).alloc B).alloc C).heap[w.heap.size + 2]? = some C := by
  refine ⟨?_, ?_, ?_⟩
  · rw [heap_alloc_old _ _ (by simp; omega)]; exact heap_alloc2_old _ _ _
  · rw [heap_alloc_old _ _ (by simp)]; exact heap_alloc2_new _ _ _
  · have := heap_alloc_new ((w.alloc A).alloc B) C
    simpa using this
theorem RBox.drewN {w wr : World} {v : Rv} {nb : List Value} (h : RBox w wr v nb) (n : Nat) : RBox w (wr.drewN n) v nb := ⟨below_drewN' h.below, h.box, h.nbox, h.res⟩
theorem RBox.setN {w wr : World} {v : Rv} {nb : List Value} (h : RBox w wr v nb) (k : Nat) (u : Value) : RBox w (wr.setCell ⟨w.heap.size + 1, k, none⟩ u) v (nb.set k u) := by
  refine ⟨h.below.setCell (by show w.heap.size ≤ w.heap.size + 1; omega) _, ?_, ?_, ?_⟩
  · rw [heap_setCell_other _ _ _ _ (by show w.heap.size ≠ w.heap.size + 1; omega)]; exact h.box
  · rw [heap_setCell_same _ _ _ _ _ _ h.nbox, ← List.setIfInBounds_toArray]
  · rw [heap_setCell_other _ _ _ _ (by show w.heap.size + 2 ≠ w.heap.size + 1; omega)]; exact h.res
/-- Behind a change of the box alone. -/
theorem RBox.but {w wr w' : World} {v v' : Rv} {nb : List Value} (h : RBox w wr v nb) (hb : But w.heap.size wr w') (hx : w'.heap[w.heap.size]? = some (.cells #[v'.n, v'.l, v'.c, v'.d, v'.a, v'.f] 31 (0, 0))) : RBox w w' v' nb :=
  ⟨hb.below h.below (Nat.le_refl _) h.below.size, hx, (hb.block _ (heap_lt h.nbox) (by omega)).trans h.nbox, (hb.block _ (heap_lt h.res) (by omega)).trans h.res⟩

def RAddRel (M : List Nd) (v : Rv) (n : Nd) (w : World) (c : Value) (wr : World) : Prop :=
  ∃ k : Nat, k ≤ M.length ∧ c = .int .i64 (k : Int) ∧ RBox w wr v (Nd.bare { n with ino := 1 + cntD n.dev (M.take k) })
theorem cntD_next {d : Int} {M : List Nd} {k : Nat} {x : Nd} (h : M[k]? = some x) : cntD d (M.take (k + 1)) = cntD d (M.take k) + if x.dev = d then 1 else 0 := by
  rw [List.take_add_one, h, cntD_append]
  simp [cntD]

theorem infoKnown : (Tryz.prog.info? 66).map (fun i => (i.zero, i.size, i.bytes)) = some (some (.agg (Nd.known { dev := 0, ino := 0, kind := 0, mode := 0, uid := 0, gid := 0, size := 0, blocks := 0, links := 0, t0 := 0, t1 := 0, t2 := 0, target := ⟨#[]⟩, dead := false, up := 0, over := 0, ents := [] }).toArray), 13, 112) := by kernel_rfl
theorem infoBool : (Tryz.prog.info? 4).map (fun i => (i.zero, i.size, i.bytes)) = some (some (.bool false), 1, 1) := by kernel_rfl
theorem bare_one (n : Nd) : ∀ u ∈ n.bare, u.oneCell' = true := fun u hu => by
  have := bares_one' [n] u (by rw [bares_one]; exact hu)
  exact this
theorem undrew {w w' : World} {r : Option Nat} (h : w.drew.grownBy w' r) : w.grownBy w' r := ⟨h.os, h.tape, h.output, h.size, h.block⟩
theorem grown_owns {A B : World} {row : Option Nat} {e : TypeId} {size n g l c : Nat} {xs : List Value} (ho : A.ownsRow 0 e size (.slice (some ⟨g, 0, none⟩) l c) n xs) (hg : A.grownBy B row) (hne : row ≠ some g) : B.ownsRow 0 e size (.slice (some ⟨g, 0, none⟩) l c) n xs :=
  ho.kept hg (.inr (fun e => hne e.symm))
theorem hel_b {wr w1 : World} {nn : Nd} {row : Option Nat} {o : Obj} (hg : ((wr.alloc o).alloc (.cells nn.bare.toArray 66)).grownBy w1 row) (hne : row ≠ some (wr.heap.size + 1)) : w1.ownsRow 0 66 13 (.slice (some ⟨wr.heap.size + 1, 0, none⟩) 1 1) 1 nn.bare := by
  have h := owns_single (W := wr.alloc o) (e := 66) (xs := nn.bare) 13 rfl
  have e : (wr.alloc o).heap.size = wr.heap.size + 1 := by simp
  rw [e] at h
  exact grown_owns h hg hne
theorem hel_c {wr w1 : World} {nn : Nd} {row : Option Nat} {o : Obj} (hg : ((wr.alloc (.cells nn.bare.toArray 66)).alloc o).grownBy w1 row) (hne : row ≠ some wr.heap.size) : w1.ownsRow 0 66 13 (.slice (some ⟨wr.heap.size, 0, none⟩) 1 1) 1 nn.bare :=
  grown_owns ((owns_single (W := wr) (e := 66) (xs := nn.bare) 13 rfl).alloc o) hg hne
theorem own_c (wr : World) (o : Obj) {e : TypeId} {size : Nat} : ((wr.alloc o).alloc (.cells #[] e)).ownsRow wr.heap.size e size (.slice (some ⟨wr.heap.size + 1, 0, none⟩) 0 0) 0 [] := by
  have h := owns_made (W := wr.alloc o) (e := e) (size := size) (base := wr.heap.size) (by simp)
  have e : (wr.alloc o).heap.size = wr.heap.size + 1 := by simp
  rw [e] at h
  exact h
theorem one_ge {n j : Nat} {m : Nat} (hn : m ≤ n) (h : (Value.slice (some ⟨n, 0, none⟩) 0 0).ownBlock = some j) : m ≤ j := by
  rw [own_some, Option.some.injEq] at h
  omega
/-- The six slices' contents. -/
def ROwn (wx : World) (v : Rv) (mN : Nat) (xN : List Value) (mL : Nat) (xL : List Value) (mC : Nat) (xC : List Value) (mD : Nat) (xD : List Value) (mA : Nat) (xA : List Value) (mF : Nat) (xF : List Value) : Prop :=
  wx.ownsRow 0 66 13 v.n mN xN ∧ wx.ownsRow 0 179 3 v.l mL xL ∧ wx.ownsRow 0 3 1 v.c mC xC ∧ wx.ownsRow 0 4 1 v.d mD xD ∧ wx.ownsRow 0 3 1 v.a mA xA ∧ wx.ownsRow 0 3 1 v.f mF xF
theorem rown_forms {wx : World} {v : Rv} {mN mL mC mD mA mF : Nat} {xN xL xC xD xA xF : List Value} (h : ROwn wx v mN xN mL xL mC xC mD xD mA xA mF xF) :
    ∃ an cn al cl ac cc ad cd aa ca af cf, v = ⟨.slice an mN cn, .slice al mL cl, .slice ac mC cc, .slice ad mD cd, .slice aa mA ca, .slice af mF cf⟩ := by
  obtain ⟨n, l, c, d, a, f⟩ := v
  obtain ⟨an, cn, hn⟩ := owns_form h.1
  obtain ⟨al, cl, hl⟩ := owns_form h.2.1
  obtain ⟨ac, cc, hc⟩ := owns_form h.2.2.1
  obtain ⟨ad, cd, hd⟩ := owns_form h.2.2.2.1
  obtain ⟨aa, ca, ha⟩ := owns_form h.2.2.2.2.1
  obtain ⟨af, cf, hf⟩ := owns_form h.2.2.2.2.2
  refine ⟨an, cn, al, cl, ac, cc, ad, cd, aa, ca, af, cf, ?_⟩
  simp only at hn hl hc hd ha hf
  rw [hn, hl, hc, hd, ha, hf]
theorem sizeRef : (Tryz.prog.info? 31).map (·.size) = some 6 := by kernel_rfl
theorem one6 (a b c d e f : Option Addr) (n1 n2 n3 n4 n5 n6 c1 c2 c3 c4 c5 c6 : Nat) : (#[.slice a n1 c1, .slice b n2 c2, .slice c n3 c3, .slice d n4 c4, .slice e n5 c5, .slice f n6 c6] : Array Value).all (·.oneCell') = true := by
  simp [Value.oneCell']
theorem but_setRow {w : World} {b : Nat} {old : Array Value} {T : TypeId} (h : w.heap[b]? = some (.cells old T (0, 0))) (cs : Array Value) : But b w (w.setRow b cs) :=
  ⟨rfl, rfl, rfl, by rw [setRow_size]; exact Nat.le_refl _, fun k hk hn => setRow_other w b k cs hn⟩
/-- Behind the appends to one field, and its store. -/
theorem rfld {w wc w1 w2 : World} {v : Rv} {nb : List Value} (H : RBox w wc v nb) {T : TypeId} {sz n : Nat} {xs el : List Value} {v1 : Value} {g cap : Nat} {o : Obj} (k : Nat) {u : Value} (hu : (#[v.n, v.l, v.c, v.d, v.a, v.f] : Array Value)[k]? = some u)
    (hg1 : (wc.alloc (.cells #[] T)).grownBy w1 (Value.slice (some ⟨wc.heap.size, 0, none⟩) 0 0).ownBlock) (h1 : w1.ownsRow wc.heap.size T sz v1 (0 + n) ([] ++ xs))
    (h2 : w2.ownsRow wc.heap.size T sz (.slice (some ⟨g, 0, none⟩) (0 + n + 1) cap) (0 + n + 1) ([] ++ xs ++ el)) (hg2 : (w1.alloc o).grownBy w2 v1.ownBlock) :
    w2.cell? ⟨w.heap.size, k, none⟩ = some u ∧ w2.frozen? ⟨w.heap.size, k, none⟩ = false ∧ But w.heap.size wc (w2.setCell ⟨w.heap.size, k, none⟩ (.slice (some ⟨g, 0, none⟩) (n + 1) cap)) ∧
      (w2.setCell ⟨w.heap.size, k, none⟩ (.slice (some ⟨g, 0, none⟩) (n + 1) cap)).heap[w.heap.size]? = some (.cells ((#[v.n, v.l, v.c, v.d, v.a, v.f] : Array Value).setIfInBounds k (.slice (some ⟨g, 0, none⟩) (n + 1) cap)) 31 (0, 0)) ∧
      (w2.setCell ⟨w.heap.size, k, none⟩ (.slice (some ⟨g, 0, none⟩) (n + 1) cap)).ownsRow 0 T sz (.slice (some ⟨g, 0, none⟩) (n + 1) cap) (n + 1) (xs ++ el) := by
  obtain ⟨r1, r2, r3⟩ := app_two (k := k) (v := .slice (some ⟨g, 0, none⟩) (n + 1) cap) hg1 hg2 (fun j => one_ge (Nat.le_refl _)) (own_ge h1) H.box
  rw [Nat.zero_add, List.nil_append] at h2
  exact ⟨by rw [cell_of_row _ _ _ _ _ _ r1]; exact hu, frozen_of_row _ _ _ _ _ r1, r2, r3, owns_set h2 (heap_lt H.box)⟩
/-- Behind the nodes' appends. -/
def RN7 (w wr : World) (M : List Nd) (nn : Nd) (v : Rv) (wx : World) : Prop :=
  ∃ g cap, RBox w wx { v with n := .slice (some ⟨g, 0, none⟩) (M.length + 1) cap } nn.bare ∧ wx.ownsRow 0 66 13 (.slice (some ⟨g, 0, none⟩) (M.length + 1) cap) (M.length + 1) (bares M ++ nn.bare) ∧ But w.heap.size wr wx
theorem rn7_a {w wr w1 w2 : World} {M : List Nd} {nn : Nd} {v : Rv} {v1 : Value} {g cap : Nat} {o : Obj} (H : RBox w wr v nn.bare) (hg1 : (wr.alloc (.cells #[] 66)).grownBy w1 (Value.slice (some ⟨wr.heap.size, 0, none⟩) 0 0).ownBlock)
    (h1 : w1.ownsRow wr.heap.size 66 13 v1 (0 + M.length) ([] ++ bares M)) (h2 : w2.ownsRow wr.heap.size 66 13 (.slice (some ⟨g, 0, none⟩) (0 + M.length + 1) cap) (0 + M.length + 1) ([] ++ bares M ++ nn.bare)) (hg2 : (w1.alloc o).grownBy w2 v1.ownBlock) :
    w2.cell? ⟨w.heap.size, 0, none⟩ = some v.n ∧ w2.frozen? ⟨w.heap.size, 0, none⟩ = false ∧ RN7 w wr M nn v (w2.setCell ⟨w.heap.size, 0, none⟩ (.slice (some ⟨g, 0, none⟩) (M.length + 1) cap)) := by
  obtain ⟨r1, r2, r3⟩ := app_two (k := 0) (v := .slice (some ⟨g, 0, none⟩) (M.length + 1) cap) hg1 hg2 (own_ge (owns_made (e := 66) (size := 13) (Nat.le_refl wr.heap.size))) (own_ge h1) H.box
  have hbl := heap_lt H.box
  rw [Nat.zero_add, List.nil_append] at h2
  refine ⟨by rw [cell_of_row _ _ _ _ _ _ r1]; rfl, frozen_of_row _ _ _ _ _ r1, g, cap, H.but r2 r3, owns_set h2 hbl, r2⟩
theorem rn7_b {w wr w1 w2 : World} {M : List Nd} {nn : Nd} {v : Rv} {v1 d1 : Value} {g cap : Nat} {o o' : Obj} (H : RBox w wr v nn.bare) (hg1 : ((wr.alloc o).alloc o').grownBy w1 d1.ownBlock) (hd : ∀ j, d1.ownBlock = some j → wr.heap.size ≤ j)
    (h1 : w1.ownsRow wr.heap.size 66 13 v1 (0 + M.length) ([] ++ bares M)) (h2 : w2.ownsRow wr.heap.size 66 13 (.slice (some ⟨g, 0, none⟩) (0 + M.length + 1) cap) (0 + M.length + 1) ([] ++ bares M ++ nn.bare)) (hg2 : w1.grownBy w2 v1.ownBlock) :
    w2.cell? ⟨w.heap.size, 0, none⟩ = some v.n ∧ w2.frozen? ⟨w.heap.size, 0, none⟩ = false ∧ RN7 w wr M nn v (w2.setCell ⟨w.heap.size, 0, none⟩ (.slice (some ⟨g, 0, none⟩) (M.length + 1) cap)) := by
  obtain ⟨r1, r2, r3⟩ := app_two' (k := 0) (v := .slice (some ⟨g, 0, none⟩) (M.length + 1) cap) hg1 hg2 hd (own_ge h1) H.box
  have hbl := heap_lt H.box
  rw [Nat.zero_add, List.nil_append] at h2
  refine ⟨by rw [cell_of_row _ _ _ _ _ _ r1]; rfl, frozen_of_row _ _ _ _ _ r1, g, cap, H.but r2 r3, owns_set h2 hbl, r2⟩

set_option maxRecDepth 100000 in
set_option maxHeartbeats 4000000 in
theorem radd_any (M : List Nd) (L : List It) (v : Rv) (n : Nd) (up : Int) (w : World) (F : List Int) (H : ROwn w v M.length (bares M) L.length (itCells L) M.length (covs M 0) M.length (deads M) M.length (ups M) F.length (ints F)) (hM : M.length ≤ 1000000) :
    Calls Tryz.prog 88 #[rvV v, .agg n.bare.toArray, .int .i64 up] w fun e w' => ∃ v', e = .returned (rvV v') ∧ ROwn w' v' (M.length + 1) (bares M ++ (addedNd n n.dev M).bare) L.length (itCells L) (M.length + 1) (covs M 0 ++ [.int .i64 (-1)]) (M.length + 1) (deads M ++ [.bool false]) (M.length + 1) (ups M ++ [.int .i64 up]) F.length (ints F) ∧ Below w.heap.size w w' := by
  obtain ⟨an, cn, al, cl, ac, cc, ad, cd, aa, ca, af, cf, rfl⟩ := rown_forms H
  have k1 : n.bare[1]? = some (.int .i64 n.ino) := rfl
  unfold rvV
  go_enter Tryz.func88, Tryz.ntmps88
  go_wp2
  clear k1
  have HH := Lib.hid H
  clear H
  go_loopw [7] (RAddRel M ⟨.slice an M.length cn, .slice al L.length cl, .slice ac M.length cc, .slice ad M.length cd, .slice aa M.length ca, .slice af F.length cf⟩ n w) (fun v _ => M.length - (intOf v).toNat)
  case atStart =>
    obtain ⟨q0, q1, q2⟩ := heap3 w (.cells #[.slice an M.length cn, .slice al L.length cl, .slice ac M.length cc, .slice ad M.length cd, .slice aa M.length ca, .slice af F.length cf] 31) (.cells (n.bare.set 1 (.int .i64 1)).toArray 66) (.cells nilsR 31)
    exact ⟨0, Nat.zero_le _, rfl, (((Below.refl _ _).alloc (Nat.le_refl _) _).alloc (by simp) _).alloc (by simp; omega) _, q0, q1, q2⟩
  case round =>
    obtain ⟨k, hk, rfl, hbx⟩ := hrel
    have HB := Lib.hid hbx
    have p0 : wr.cell? ⟨w.heap.size, 0, none⟩ = some (.slice an M.length cn) := by rw [cell_of_row _ _ _ _ _ _ hbx.box]; rfl
    have bd := cntD_bd n.dev (M.take k)
    rw [List.length_take] at bd
    obtain ⟨c, hc⟩ : ∃ c, cntD n.dev (M.take k) = c := ⟨_, rfl⟩
    rw [hc] at bd
    have hc0 : 0 ≤ c := bd.1
    have hc1 : c ≤ 1000000 := by have := bd.2; omega
    have HC := Lib.hid hc
    clear bd hc
    by_cases hlt : k < M.length
    · obtain ⟨x, hx⟩ : ∃ x, M[k]? = some x := ⟨_, List.getElem?_eq_getElem hlt⟩
      have HX := Lib.hid hx
      have own := owns_keep HH.out.1 hbx.below
      obtain ⟨g, cap, hv, _, _⟩ := owns_some own (show 0 < M.length by omega)
      simp only [Value.slice.injEq, true_and] at hv
      obtain ⟨rfl, rfl⟩ := hv
      have n0 : wr.cell? ⟨g, k * 13, none⟩ = some (.int .i64 x.dev) := owns_cell own (j := k * 13) ((bares_get M k 0 x hx (by omega)).trans rfl)
      have b0 : wr.cell? ⟨w.heap.size + 1, 0, none⟩ = some (.int .i64 n.dev) := by rw [cell_of_row _ _ _ _ _ _ hbx.nbox]; rfl
      have b1 : wr.cell? ⟨w.heap.size + 1, 1, none⟩ = some (.int .i64 (1 + c)) := by rw [cell_of_row _ _ _ _ _ _ hbx.nbox, ← HC.out]; rfl
      have f1 : wr.frozen? ⟨w.heap.size + 1, 1, none⟩ = false := frozen_of_row _ _ _ _ _ hbx.nbox
      clear hx own hbx
      by_cases he : x.dev = n.dev
      · have e1 : (x.dev == n.dev) = true := by simp [he]
        have HE := Lib.hid he
        clear he
        go_wp2
        go_quiet (fail)
        go_wp2
        go_roundw
        case rel =>
          refine ⟨k + 1, by omega, by simp, ?_⟩
          have := ((HB.out).setN 1 (.int .i64 (1 + c + 1))).drewN nq
          rw [cntD_next HX.out, if_pos HE.out, HC.out, show 1 + (c + 1) = 1 + c + 1 by omega]
          exact this
        case measure => simp [intOf]; omega
      · have e1 : (x.dev == n.dev) = false := by simp [he]
        have HE := Lib.hid he
        clear he
        go_wp2
        go_quiet (fail)
        go_wp2
        go_roundw
        case rel =>
          refine ⟨k + 1, by omega, by simp, ?_⟩
          rw [cntD_next HX.out, if_neg HE.out, HC.out, Int.add_zero, ← HC.out]
          exact HB.out.drewN nq
        case measure => simp [intOf]; omega
    · have hke : k = M.length := by omega
      have hbx2 : RBox w wr ⟨.slice an M.length cn, .slice al L.length cl, .slice ac M.length cc, .slice ad M.length cd, .slice aa M.length ca, .slice af F.length cf⟩ (Nd.bare (addedNd n n.dev M)) := by
        have := HB.out
        rw [hke, List.take_length] at this
        exact this
      subst hke
      go_wp2
      have HB2 := Lib.hid hbx2
      have HNb := Lib.hid (owns_keep HH.out.1 hbx2.below)
      clear hbx2 HB HC
      obtain ⟨i0, hi, hz0, hz1, hz2⟩ := info_parts infoKnown
      have HMX := Lib.hid (show 0 + M.length ≤ maxLen from by unfold maxLen; omega)
      have HMY := Lib.hid (show 0 + M.length + 1 ≤ maxLen from by unfold maxLen; omega)
      obtain ⟨nn, hnn⟩ : ∃ nn, addedNd n n.dev M = nn := ⟨_, rfl⟩
      rw [hnn] at HB2
      have HNN := Lib.hid hnn
      clear hnn
      go_cut [] from 29 to 36 (fun wx => RN7 w wr M nn ⟨.slice an M.length cn, .slice al L.length cl, .slice ac M.length cc, .slice ad M.length cd, .slice aa M.length ca, .slice af F.length cf⟩ wx)
      case first =>
        have hq0 : w.heap.size < wr.heap.size := heap_lt HB2.out.box
        have hq1 : w.heap.size + 1 < wr.heap.size := heap_lt HB2.out.nbox
        have p0 : wr.cell? ⟨w.heap.size, 0, none⟩ = some (.slice an M.length cn) := by rw [cell_of_row _ _ _ _ _ _ HB2.out.box]; rfl
        have p0a : ∀ o, (wr.alloc o).cell? ⟨w.heap.size, 0, none⟩ = some (.slice an M.length cn) := fun o => (World.cell?_alloc_past _ _ _ hq0).trans p0
        have p0b : ∀ o o', ((wr.alloc o).alloc o').cell? ⟨w.heap.size, 0, none⟩ = some (.slice an M.length cn) := fun o o' => (World.cell?_alloc_past _ _ _ (by simp; omega)).trans (p0a o)
        have bx : ∀ j u, (Nd.bare nn)[j]? = some u → wr.cell? ⟨w.heap.size + 1, j, none⟩ = some u := fun j u hu => by rw [cell_of_row _ _ _ _ _ _ HB2.out.nbox]; simpa using hu
        have b0 := bx 0 _ rfl
        have a0 : ∀ o, (wr.alloc o).cell? ⟨w.heap.size + 1, 0, none⟩ = some _ := fun o => (World.cell?_alloc_past _ _ _ hq1).trans b0
        have b1 := bx 1 _ rfl
        have a1 : ∀ o, (wr.alloc o).cell? ⟨w.heap.size + 1, 1, none⟩ = some _ := fun o => (World.cell?_alloc_past _ _ _ hq1).trans b1
        have b2 := bx 2 _ rfl
        have a2 : ∀ o, (wr.alloc o).cell? ⟨w.heap.size + 1, 2, none⟩ = some _ := fun o => (World.cell?_alloc_past _ _ _ hq1).trans b2
        have b3 := bx 3 _ rfl
        have a3 : ∀ o, (wr.alloc o).cell? ⟨w.heap.size + 1, 3, none⟩ = some _ := fun o => (World.cell?_alloc_past _ _ _ hq1).trans b3
        have b4 := bx 4 _ rfl
        have a4 : ∀ o, (wr.alloc o).cell? ⟨w.heap.size + 1, 4, none⟩ = some _ := fun o => (World.cell?_alloc_past _ _ _ hq1).trans b4
        have b5 := bx 5 _ rfl
        have a5 : ∀ o, (wr.alloc o).cell? ⟨w.heap.size + 1, 5, none⟩ = some _ := fun o => (World.cell?_alloc_past _ _ _ hq1).trans b5
        have b6 := bx 6 _ rfl
        have a6 : ∀ o, (wr.alloc o).cell? ⟨w.heap.size + 1, 6, none⟩ = some _ := fun o => (World.cell?_alloc_past _ _ _ hq1).trans b6
        have b7 := bx 7 _ rfl
        have a7 : ∀ o, (wr.alloc o).cell? ⟨w.heap.size + 1, 7, none⟩ = some _ := fun o => (World.cell?_alloc_past _ _ _ hq1).trans b7
        have b8 := bx 8 _ rfl
        have a8 : ∀ o, (wr.alloc o).cell? ⟨w.heap.size + 1, 8, none⟩ = some _ := fun o => (World.cell?_alloc_past _ _ _ hq1).trans b8
        have b9 := bx 9 _ rfl
        have a9 : ∀ o, (wr.alloc o).cell? ⟨w.heap.size + 1, 9, none⟩ = some _ := fun o => (World.cell?_alloc_past _ _ _ hq1).trans b9
        have b10 := bx 10 _ rfl
        have a10 : ∀ o, (wr.alloc o).cell? ⟨w.heap.size + 1, 10, none⟩ = some _ := fun o => (World.cell?_alloc_past _ _ _ hq1).trans b10
        have b11 := bx 11 _ rfl
        have a11 : ∀ o, (wr.alloc o).cell? ⟨w.heap.size + 1, 11, none⟩ = some _ := fun o => (World.cell?_alloc_past _ _ _ hq1).trans b11
        have b12 := bx 12 _ rfl
        have a12 : ∀ o, (wr.alloc o).cell? ⟨w.heap.size + 1, 12, none⟩ = some _ := fun o => (World.cell?_alloc_past _ _ _ hq1).trans b12
        have HS1 := Lib.hid (show ∀ o, (wr.alloc o).ownsRow 0 66 13 (.slice an M.length cn) M.length (bares M) from fun o => HNb.out.alloc o)
        have HS2 := Lib.hid (show ∀ o o', ((wr.alloc o).alloc o').ownsRow 0 66 13 (.slice an M.length cn) M.length (bares M) from fun o o' => (HNb.out.alloc o).alloc o')
        have HNX := Lib.hid (show ∀ W : World, W.heap[w.heap.size + 1]? = some (.cells nn.bare.toArray 66 (0, 0)) → ∀ j u, (Nd.bare nn)[j]? = some u → W.cell? ⟨w.heap.size + 1, j, none⟩ = some u from fun W hW j u hu => by rw [cell_of_row _ _ _ _ _ _ hW]; simpa using hu)
        clear bx
        go_region_law (first
          | (refine step_append_row rfl (.tmp 29) (.tmp 31) 26 rfl wr.heap.size 66 i0 _ 13 112 Tryz.underlying26 hi hz0 hz1 hz2 rfl (by decide) (.slice (some ⟨wr.heap.size, 0, none⟩) 0 0) 0 [] (by simp [Act.eval]) (owns_made (Nat.le_refl _)) (.slice an M.length cn) M.length (bares M) (by simp [Act.eval]) (HS1.out _) (bares_one' M) HMX.out (by omega) (by simp) ?_; intro v1 w1 hown1 hg1; have HGA := Lib.hid (undrew hg1); have HOA := Lib.hid hown1; have hnb1 := (grown_old hg1 (own_ge (owns_made (e := 66) (size := 13) (Nat.le_refl wr.heap.size))) (by simp; omega) hq1).trans ((heap_alloc_old _ _ hq1).trans HB2.out.nbox); have c0 := HNX.out _ hnb1 0 _ rfl; have c1 := HNX.out _ hnb1 1 _ rfl; have c2 := HNX.out _ hnb1 2 _ rfl; have c3 := HNX.out _ hnb1 3 _ rfl; have c4 := HNX.out _ hnb1 4 _ rfl; have c5 := HNX.out _ hnb1 5 _ rfl; have c6 := HNX.out _ hnb1 6 _ rfl; have c7 := HNX.out _ hnb1 7 _ rfl; have c8 := HNX.out _ hnb1 8 _ rfl; have c9 := HNX.out _ hnb1 9 _ rfl; have c10 := HNX.out _ hnb1 10 _ rfl; have c11 := HNX.out _ hnb1 11 _ rfl; have c12 := HNX.out _ hnb1 12 _ rfl; clear hown1 hg1 hnb1)
          | (refine step_append_row rfl (.tmp 29) (.tmp 31) 26 rfl wr.heap.size 66 i0 _ 13 112 Tryz.underlying26 hi hz0 hz1 hz2 rfl (by decide) (.slice (some ⟨wr.heap.size, 0, none⟩) 0 0) 0 [] (by simp [Act.eval]) ((owns_made (Nat.le_refl _)).alloc (.cells nn.bare.toArray 66)) (.slice an M.length cn) M.length (bares M) (by simp [Act.eval]) (HS2.out (.cells #[] 66) (.cells nn.bare.toArray 66)) (bares_one' M) HMX.out (by omega) (by simp <;> omega) ?_; intro v1 w1 hown1 hg1; have HGB := Lib.hid (undrew hg1); have HGD := Lib.hid (show ∀ j, (Value.slice (some ⟨wr.heap.size, 0, none⟩) 0 0).ownBlock = some j → wr.heap.size ≤ j from fun j => one_ge (Nat.le_refl _)); have HOB := Lib.hid hown1; have HEL := Lib.hid (hel_b (nn := nn) (undrew hg1) (by rw [own_some]; simp)); clear hown1 hg1)
          | (refine step_append_row rfl (.tmp 29) (.tmp 31) 26 rfl wr.heap.size 66 i0 _ 13 112 Tryz.underlying26 hi hz0 hz1 hz2 rfl (by decide) (.slice (some ⟨wr.heap.size + 1, 0, none⟩) 0 0) 0 [] (by simp [Act.eval]) (own_c wr _) (.slice an M.length cn) M.length (bares M) (by simp [Act.eval]) (HS2.out (.cells nn.bare.toArray 66) (.cells #[] 66)) (bares_one' M) HMX.out (by omega) (by simp <;> omega) ?_; intro v1 w1 hown1 hg1; have HGB := Lib.hid (undrew hg1); have HGD := Lib.hid (show ∀ j, (Value.slice (some ⟨wr.heap.size + 1, 0, none⟩) 0 0).ownBlock = some j → wr.heap.size ≤ j from fun j => one_ge (by omega)); have HOB := Lib.hid hown1; have HEL := Lib.hid (hel_c (nn := nn) (undrew hg1) (by rw [own_some]; simp)); clear hown1 hg1)
          | (refine step_append_row rfl (.tmp 32) (.tmp 34) 26 rfl wr.heap.size 66 i0 _ 13 112 Tryz.underlying26 hi hz0 hz1 hz2 rfl (by decide) v1 (0 + M.length) ([] ++ bares M) (by simp [Act.eval]) (HOA.out.alloc _) (.slice (some ⟨w1.heap.size, 0, none⟩) 1 1) 1 nn.bare (by simp [Act.eval]) (owns_single 13 rfl) (bare_one nn) HMY.out (by omega) (by have := HGA.out.size; simp at this ⊢; omega) ?_; intro v2 w2 hown2 hg2; obtain ⟨g2, cap2, rfl, _, _⟩ := owns_some hown2 (by omega); have R := Lib.hid (rn7_a HB2.out HGA.out HOA.out hown2 hg2); have q2 := R.out.1; have q3 := R.out.2.1; clear hown2 hg2)
          | (refine step_append_row rfl (.tmp 32) (.tmp 34) 26 rfl wr.heap.size 66 i0 _ 13 112 Tryz.underlying26 hi hz0 hz1 hz2 rfl (by decide) v1 (0 + M.length) ([] ++ bares M) (by simp [Act.eval]) HOB.out (.slice (some ⟨wr.heap.size + 1, 0, none⟩) 1 1) 1 nn.bare (by simp [Act.eval]) HEL.out (bare_one nn) HMY.out (by omega) (by have := HGB.out.size; simp at this ⊢; omega) ?_; intro v2 w2 hown2 hg2; obtain ⟨g2, cap2, rfl, _, _⟩ := owns_some hown2 (by omega); have R := Lib.hid (rn7_b HB2.out HGB.out HGD.out HOB.out hown2 hg2); have q2 := R.out.1; have q3 := R.out.2.1; clear hown2 hg2)
          | (refine step_append_row rfl (.tmp 32) (.tmp 34) 26 rfl wr.heap.size 66 i0 _ 13 112 Tryz.underlying26 hi hz0 hz1 hz2 rfl (by decide) v1 (0 + M.length) ([] ++ bares M) (by simp [Act.eval]) HOB.out (.slice (some ⟨wr.heap.size, 0, none⟩) 1 1) 1 nn.bare (by simp [Act.eval]) HEL.out (bare_one nn) HMY.out (by omega) (by have := HGB.out.size; simp at this ⊢; omega) ?_; intro v2 w2 hown2 hg2; obtain ⟨g2, cap2, rfl, _, _⟩ := owns_some hown2 (by omega); have R := Lib.hid (rn7_b HB2.out HGB.out HGD.out HOB.out hown2 hg2); have q2 := R.out.1; have q3 := R.out.2.1; clear hown2 hg2))
        all_goals go_wp2
        all_goals go_meet
        all_goals exact R.out.2.2
      case rest =>
        obtain ⟨gn, kn, hbx, hon, hbut⟩ := hcut
        have hbox := HB2.out.box
        have HO := Lib.hid (show ROwn wc ⟨.slice (some ⟨gn, 0, none⟩) (M.length + 1) kn, .slice al L.length cl, .slice ac M.length cc, .slice ad M.length cd, .slice aa M.length ca, .slice af F.length cf⟩ (M.length + 1) (bares M ++ nn.bare) L.length (itCells L) M.length (covs M 0) M.length (deads M) M.length (ups M) F.length (ints F) from
          ⟨hon, hbut.owns (owns_keep HH.out.2.1 HB2.out.below) hbox (by decide), hbut.owns (owns_keep HH.out.2.2.1 HB2.out.below) hbox (by decide), hbut.owns (owns_keep HH.out.2.2.2.1 HB2.out.below) hbox (by decide), hbut.owns (owns_keep HH.out.2.2.2.2.1 HB2.out.below) hbox (by decide), hbut.owns (owns_keep HH.out.2.2.2.2.2 HB2.out.below) hbox (by decide)⟩)
        have HR := Lib.hid hbx
        have HFin := Lib.hid (show True from trivial)
        clear hbx hon hbut hbox p0 HB2 HNb
        obtain ⟨j0, ji, jz0, jz1, jz2⟩ := info_parts infoInt
        obtain ⟨l0, li, lz0, lz1, lz2⟩ := info_parts infoBool
        have hq := heap_lt HR.out.box
        have p2 : wc.cell? ⟨w.heap.size, 2, none⟩ = some (.slice ac M.length cc) := by rw [cell_of_row _ _ _ _ _ _ HR.out.box]; rfl
        have p2a : ∀ o, (wc.alloc o).cell? ⟨w.heap.size, 2, none⟩ = some (.slice ac M.length cc) := fun o => (World.cell?_alloc_past _ _ _ hq).trans p2
        go_upto_region 9 with (first
          | (at_builtin; refine wpList_append_row rfl (.tmp 37) (.tmp 39) 28 rfl wc.heap.size 3 j0 _ 1 8 Tryz.underlying28 ji jz0 jz1 jz2 rfl (by decide) (.slice (some ⟨wc.heap.size, 0, none⟩) 0 0) 0 [] rfl (owns_made (Nat.le_refl _)) (.slice ac M.length cc) M.length (covs M 0) rfl (HO.out.2.2.1.alloc _) (covs_one M 0) HMX.out (by omega) (by simp) ?_; intro v1 w1 hown1 hg1; have HGA := Lib.hid hg1; have HOA := Lib.hid hown1; clear hown1 hg1)
          | (at_builtin; refine wpList_append_row rfl (.tmp 40) (.tmp 41) 28 rfl wc.heap.size 3 j0 _ 1 8 Tryz.underlying28 ji jz0 jz1 jz2 rfl (by decide) v1 (0 + M.length) ([] ++ covs M 0) rfl (HOA.out.alloc _) (.slice (some ⟨w1.heap.size, 0, none⟩) 1 1) 1 [.int .i64 (-1)] rfl (owns_single 1 rfl) (by intro u hu; simp at hu; subst hu; rfl) HMY.out (by omega) (by have := HGA.out.size; simp at this ⊢; omega) ?_; intro v2 w2 hown2 hg2; obtain ⟨gc, kc, rfl, _, _⟩ := owns_some hown2 (by omega); have R := Lib.hid (rfld HR.out 2 rfl HGA.out HOA.out hown2 hg2); have q2 := R.out.1; have q3 := R.out.2.1; clear hown2 hg2))
        obtain ⟨_, _, s1, s2, s3⟩ := R.out
        have HR2 := Lib.hid (HR.out.but (v' := ⟨.slice (some ⟨gn, 0, none⟩) (M.length + 1) kn, .slice al L.length cl, .slice (some ⟨gc, 0, none⟩) (M.length + 1) kc, .slice ad M.length cd, .slice aa M.length ca, .slice af F.length cf⟩) s1 s2)
        have HO2 := Lib.hid (show ROwn _ ⟨.slice (some ⟨gn, 0, none⟩) (M.length + 1) kn, .slice al L.length cl, .slice (some ⟨gc, 0, none⟩) (M.length + 1) kc, .slice ad M.length cd, .slice aa M.length ca, .slice af F.length cf⟩ (M.length + 1) (bares M ++ nn.bare) (L.length) (itCells L) (M.length + 1) (covs M 0 ++ [.int .i64 (-1)]) (M.length) (deads M) (M.length) (ups M) F.length (ints F) from ⟨s1.owns HO.out.1 HR.out.box (by decide), s1.owns HO.out.2.1 HR.out.box (by decide), s3, s1.owns HO.out.2.2.2.1 HR.out.box (by decide), s1.owns HO.out.2.2.2.2.1 HR.out.box (by decide), s1.owns HO.out.2.2.2.2.2 HR.out.box (by decide)⟩)
        clear HR HO R s1 s2 s3 q2 q3 HGA HOA p2 p2a hq
        generalize w2.setCell ⟨w.heap.size, 2, none⟩ (.slice (some ⟨gc, 0, none⟩) (M.length + 1) kc) = wc8 at *
        have HR := Lib.hid HR2.out
        have HO := Lib.hid HO2.out
        clear HR2 HO2
        have hq := heap_lt HR.out.box
        have p3 : wc8.cell? ⟨w.heap.size, 3, none⟩ = some (.slice ad M.length cd) := by rw [cell_of_row _ _ _ _ _ _ HR.out.box]; rfl
        have p3a : ∀ o, (wc8.alloc o).cell? ⟨w.heap.size, 3, none⟩ = some (.slice ad M.length cd) := fun o => (World.cell?_alloc_past _ _ _ hq).trans p3
        go_upto_region 10 with (first
          | (at_builtin; refine wpList_append_row rfl (.tmp 44) (.tmp 46) 29 rfl wc8.heap.size 4 l0 _ 1 1 Tryz.underlying29 li lz0 lz1 lz2 rfl (by decide) (.slice (some ⟨wc8.heap.size, 0, none⟩) 0 0) 0 [] rfl (owns_made (Nat.le_refl _)) (.slice ad M.length cd) M.length (deads M) rfl (HO.out.2.2.2.1.alloc _) (deads_one M) HMX.out (by omega) (by simp) ?_; intro v1 w1 hown1 hg1; have HGA := Lib.hid hg1; have HOA := Lib.hid hown1; clear hown1 hg1)
          | (at_builtin; refine wpList_append_row rfl (.tmp 47) (.tmp 48) 29 rfl wc8.heap.size 4 l0 _ 1 1 Tryz.underlying29 li lz0 lz1 lz2 rfl (by decide) v1 (0 + M.length) ([] ++ deads M) rfl (HOA.out.alloc _) (.slice (some ⟨w1.heap.size, 0, none⟩) 1 1) 1 [.bool false] rfl (owns_single 1 rfl) (by intro u hu; simp at hu; subst hu; rfl) HMY.out (by omega) (by have := HGA.out.size; simp at this ⊢; omega) ?_; intro v2 w2 hown2 hg2; obtain ⟨gd, kd, rfl, _, _⟩ := owns_some hown2 (by omega); have R := Lib.hid (rfld HR.out 3 rfl HGA.out HOA.out hown2 hg2); have q2 := R.out.1; have q3 := R.out.2.1; clear hown2 hg2))
        obtain ⟨_, _, s1, s2, s3⟩ := R.out
        have HR2 := Lib.hid (HR.out.but (v' := ⟨.slice (some ⟨gn, 0, none⟩) (M.length + 1) kn, .slice al L.length cl, .slice (some ⟨gc, 0, none⟩) (M.length + 1) kc, .slice (some ⟨gd, 0, none⟩) (M.length + 1) kd, .slice aa M.length ca, .slice af F.length cf⟩) s1 s2)
        have HO2 := Lib.hid (show ROwn _ ⟨.slice (some ⟨gn, 0, none⟩) (M.length + 1) kn, .slice al L.length cl, .slice (some ⟨gc, 0, none⟩) (M.length + 1) kc, .slice (some ⟨gd, 0, none⟩) (M.length + 1) kd, .slice aa M.length ca, .slice af F.length cf⟩ (M.length + 1) (bares M ++ nn.bare) (L.length) (itCells L) (M.length + 1) (covs M 0 ++ [.int .i64 (-1)]) (M.length + 1) (deads M ++ [.bool false]) (M.length) (ups M) F.length (ints F) from ⟨s1.owns HO.out.1 HR.out.box (by decide), s1.owns HO.out.2.1 HR.out.box (by decide), s1.owns HO.out.2.2.1 HR.out.box (by decide), s3, s1.owns HO.out.2.2.2.2.1 HR.out.box (by decide), s1.owns HO.out.2.2.2.2.2 HR.out.box (by decide)⟩)
        clear HR HO R s1 s2 s3 q2 q3 HGA HOA p3 p3a hq
        generalize w2.setCell ⟨w.heap.size, 3, none⟩ (.slice (some ⟨gd, 0, none⟩) (M.length + 1) kd) = wc9 at *
        have HR := Lib.hid HR2.out
        have HO := Lib.hid HO2.out
        clear HR2 HO2
        have hq := heap_lt HR.out.box
        have p4 : wc9.cell? ⟨w.heap.size, 4, none⟩ = some (.slice aa M.length ca) := by rw [cell_of_row _ _ _ _ _ _ HR.out.box]; rfl
        have p4a : ∀ o, (wc9.alloc o).cell? ⟨w.heap.size, 4, none⟩ = some (.slice aa M.length ca) := fun o => (World.cell?_alloc_past _ _ _ hq).trans p4
        go_upto_region 11 with (first
          | (at_builtin; refine wpList_append_row rfl (.tmp 51) (.tmp 53) 28 rfl wc9.heap.size 3 j0 _ 1 8 Tryz.underlying28 ji jz0 jz1 jz2 rfl (by decide) (.slice (some ⟨wc9.heap.size, 0, none⟩) 0 0) 0 [] rfl (owns_made (Nat.le_refl _)) (.slice aa M.length ca) M.length (ups M) rfl (HO.out.2.2.2.2.1.alloc _) (ups_one M) HMX.out (by omega) (by simp) ?_; intro v1 w1 hown1 hg1; have HGA := Lib.hid hg1; have HOA := Lib.hid hown1; clear hown1 hg1)
          | (at_builtin; refine wpList_append_row rfl (.tmp 54) (.tmp 56) 28 rfl wc9.heap.size 3 j0 _ 1 8 Tryz.underlying28 ji jz0 jz1 jz2 rfl (by decide) v1 (0 + M.length) ([] ++ ups M) rfl (HOA.out.alloc _) (.slice (some ⟨w1.heap.size, 0, none⟩) 1 1) 1 [.int .i64 up] rfl (owns_single 1 rfl) (by intro u hu; simp at hu; subst hu; rfl) HMY.out (by omega) (by have := HGA.out.size; simp at this ⊢; omega) ?_; intro v2 w2 hown2 hg2; obtain ⟨ga, ka, rfl, _, _⟩ := owns_some hown2 (by omega); have R := Lib.hid (rfld HR.out 4 rfl HGA.out HOA.out hown2 hg2); have q2 := R.out.1; have q3 := R.out.2.1; clear hown2 hg2))
        obtain ⟨_, _, s1, s2, s3⟩ := R.out
        have HR2 := Lib.hid (HR.out.but (v' := ⟨.slice (some ⟨gn, 0, none⟩) (M.length + 1) kn, .slice al L.length cl, .slice (some ⟨gc, 0, none⟩) (M.length + 1) kc, .slice (some ⟨gd, 0, none⟩) (M.length + 1) kd, .slice (some ⟨ga, 0, none⟩) (M.length + 1) ka, .slice af F.length cf⟩) s1 s2)
        have HO2 := Lib.hid (show ROwn _ ⟨.slice (some ⟨gn, 0, none⟩) (M.length + 1) kn, .slice al L.length cl, .slice (some ⟨gc, 0, none⟩) (M.length + 1) kc, .slice (some ⟨gd, 0, none⟩) (M.length + 1) kd, .slice (some ⟨ga, 0, none⟩) (M.length + 1) ka, .slice af F.length cf⟩ (M.length + 1) (bares M ++ nn.bare) (L.length) (itCells L) (M.length + 1) (covs M 0 ++ [.int .i64 (-1)]) (M.length + 1) (deads M ++ [.bool false]) (M.length + 1) (ups M ++ [.int .i64 up]) F.length (ints F) from ⟨s1.owns HO.out.1 HR.out.box (by decide), s1.owns HO.out.2.1 HR.out.box (by decide), s1.owns HO.out.2.2.1 HR.out.box (by decide), s1.owns HO.out.2.2.2.1 HR.out.box (by decide), s3, s1.owns HO.out.2.2.2.2.2 HR.out.box (by decide)⟩)
        clear HR HO R s1 s2 s3 q2 q3 HGA HOA p4 p4a hq
        generalize w2.setCell ⟨w.heap.size, 4, none⟩ (.slice (some ⟨ga, 0, none⟩) (M.length + 1) ka) = wc10 at *
        have HR := Lib.hid HR2.out
        have HO := Lib.hid HO2.out
        clear HR2 HO2
        have hres := HR.out.res
        have hbx := HR.out.box
        have HRE := Lib.hid (show wc10.heap[w.heap.size + 1 + 1]? = some (.cells nilsR 31 (0, 0)) from hres)
        have HBX := Lib.hid hbx
        clear hres hbx
        go_wp2_with (first
          | (refine wpList_load_row rfl 31 (.tmp 3) rfl w.heap.size rfl _ _ _ _ HBX.out Tryz.underlying31 rfl (by rw [sizeRef]; rfl) ?_)
          | (refine wpList_store_row rfl 31 (.tmp 6) (.tmp 59) rfl (w.heap.size + 1 + 1) #[.slice (some ⟨gn, 0, none⟩) (M.length + 1) kn, .slice al L.length cl, .slice (some ⟨gc, 0, none⟩) (M.length + 1) kc, .slice (some ⟨gd, 0, none⟩) (M.length + 1) kd, .slice (some ⟨ga, 0, none⟩) (M.length + 1) ka, .slice af F.length cf] rfl rfl 31 nilsR HRE.out sizeRef rfl (one6 _ _ _ _ _ _ _ _ _ _ _ _ _ _ _ _ _ _) ?_))
        refine bodyPost_ret (v := rvV ⟨.slice (some ⟨gn, 0, none⟩) (M.length + 1) kn, .slice al L.length cl, .slice (some ⟨gc, 0, none⟩) (M.length + 1) kc, .slice (some ⟨gd, 0, none⟩) (M.length + 1) kd, .slice (some ⟨ga, 0, none⟩) (M.length + 1) ka, .slice af F.length cf⟩) ?_ rfl ⟨⟨.slice (some ⟨gn, 0, none⟩) (M.length + 1) kn, .slice al L.length cl, .slice (some ⟨gc, 0, none⟩) (M.length + 1) kc, .slice (some ⟨gd, 0, none⟩) (M.length + 1) kd, .slice (some ⟨ga, 0, none⟩) (M.length + 1) ka, .slice af F.length cf⟩, rfl, ?_, ?_⟩
        · exact results_cell_row Tryz.results88 _ _ (w.heap.size + 1 + 1) _ _ _ _ rfl (setRow_heap _ _ _ _ _ _ HRE.out) Tryz.underlying31 rfl (by rw [sizeRef]; rfl)
        · have hb := but_setRow HRE.out #[.slice (some ⟨gn, 0, none⟩) (M.length + 1) kn, .slice al L.length cl, .slice (some ⟨gc, 0, none⟩) (M.length + 1) kc, .slice (some ⟨gd, 0, none⟩) (M.length + 1) kd, .slice (some ⟨ga, 0, none⟩) (M.length + 1) ka, .slice af F.length cf]
          have e := HNN.out
          rw [e]
          exact ⟨hb.owns HO.out.1 HRE.out (by decide), hb.owns HO.out.2.1 HRE.out (by decide), hb.owns HO.out.2.2.1 HRE.out (by decide), hb.owns HO.out.2.2.2.1 HRE.out (by decide), hb.owns HO.out.2.2.2.2.1 HRE.out (by decide), hb.owns HO.out.2.2.2.2.2 HRE.out (by decide)⟩
        · exact (but_setRow HRE.out #[.slice (some ⟨gn, 0, none⟩) (M.length + 1) kn, .slice al L.length cl, .slice (some ⟨gc, 0, none⟩) (M.length + 1) kc, .slice (some ⟨gd, 0, none⟩) (M.length + 1) kd, .slice (some ⟨ga, 0, none⟩) (M.length + 1) ka, .slice af F.length cf]).below HR.out.below (by omega) HR.out.below.size
end Go.Proofs.YtknfhphhcnbndaaGreatDoor.V
