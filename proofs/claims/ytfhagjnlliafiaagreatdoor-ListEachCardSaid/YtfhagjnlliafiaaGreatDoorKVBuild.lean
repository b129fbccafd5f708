/-
  What FS.enter makes.
  Conditions: each fact's own.
-/
import Derived.Test.YtfhagjnlliafiaaGreatDoorKVChg
import Derived.Deep.RegionLaw
import Derived.Deep.MidRow
import Derived.Deep.CutRange
import Derived.StillTailTactics
set_option maxHeartbeats 4000000
set_option maxRecDepth 100000
namespace Go.Proofs.YtfhagjnlliafiaaGreatDoor.V
open Go.RowKit
def addEnt (s : ByteArray) (id : Int) (n : Nd) : Nd := { n with ents := n.ents ++ [(s, id)] }
def moreLinks (n : Nd) : Nd := { n with links := n.links + 1 }
theorem infoEntry : (Tryz.prog.info? 46).map (fun i => (i.zero, i.size, i.bytes)) = some (some (.agg #[.string ⟨#[]⟩, .int .i64 0]), 2, 24) := by kernel_rfl
theorem map_set {X : List (Nd × Value)} {i : Nat} {n : Nd} {ev ev' : Value} (f : Nd → Nd) (hx : X[i]? = some (n, ev)) : (X.set i (f n, ev')).map Prod.fst = (X.map Prod.fst).modify i f := by
  apply List.ext_getElem?
  intro j
  rw [List.getElem?_modify, List.getElem?_map, List.getElem?_map, List.getElem?_set]
  have hi := (List.getElem?_eq_some_iff.1 hx).1
  by_cases e : i = j
  · subst e
    have e := (List.getElem?_eq_some_iff.1 hx).2
    simp [hi, e]
  · simp only [if_neg e]
    cases X[j]? <;> rfl
theorem enter_mid {h : Fsh} {w w1 : World} (H : Fs h w) {G C : Nat} (hv : h.v = .slice (some ⟨G, 0, none⟩) h.X.length C) {i j : Nat} {n : Nd} {ev : Value} {y : Nd × Value} (hx : h.X[i]? = some (n, ev)) (hy : h.X[j]? = some y) {s : ByteArray} {g cap : Nat} {o : Obj}
    (ho : w1.ownsRow 0 46 2 (.slice (some ⟨g, 0, none⟩) (n.ents.length + 1) cap) (n.ents.length + 1) (entCells n.ents ++ [.string s, .int .i64 (j : Int)]))
    (hg : (w.alloc o).grownBy w1 ev.ownBlock) (hat : ev.ownBlock = some g ∨ g = (w.alloc o).heap.size) :
    ∃ (h1 : Fsh) (ev' : Value) (y' : Nd × Value), h1.p = h.p ∧ h1.v = h.v ∧ h1.X.length = h.X.length ∧ h1.M = h.M.modify i (addEnt s j) ∧ h1.X[i]? = some (addEnt s j n, ev') ∧ h1.X[j]? = some y' ∧ y'.1.kind = y.1.kind ∧ y'.1.links = y.1.links ∧
      Fs h1 (w1.setCell ⟨G, i * 17 + 16, none⟩ (.slice (some ⟨g, 0, none⟩) (n.ents.length + 1) cap)) ∧ Grew h h1 w (w1.setCell ⟨G, i * 17 + 16, none⟩ (.slice (some ⟨g, 0, none⟩) (n.ents.length + 1) cap)) := by
  have HA : Fs h (w.alloc o) := H.at fun k hk => heap_alloc_old _ _ (H.lt hk)
  obtain ⟨r1, r2⟩ := HA.enter hv hx ho hg hat
  have hi : i < h.X.length := (List.getElem?_eq_some_iff.1 hx).1
  have hxi : (h.X.set i (addEnt s j n, Value.slice (some ⟨g, 0, none⟩) (n.ents.length + 1) cap))[i]? = some (addEnt s j n, Value.slice (some ⟨g, 0, none⟩) (n.ents.length + 1) cap) := by
    rw [List.getElem?_set, if_pos rfl, if_pos hi]
  have hm : (Fsh.mk h.p h.v (h.X.set i (addEnt s j n, Value.slice (some ⟨g, 0, none⟩) (n.ents.length + 1) cap))).M = h.M.modify i (addEnt s j) := map_set (addEnt s j) hx
  have hB : Grew h h w (w.alloc o) := Grew.of_below ((Below.refl _ _).alloc (Nat.le_refl _) _)
  by_cases e : i = j
  · subst e
    rw [hx] at hy
    obtain rfl := Option.some.inj hy
    exact ⟨Fsh.mk h.p h.v (h.X.set i (addEnt s i n, Value.slice (some ⟨g, 0, none⟩) (n.ents.length + 1) cap)), _, _, rfl, rfl, List.length_set, hm, hxi, hxi, rfl, rfl, r1, hB.trans r2⟩
  · refine ⟨Fsh.mk h.p h.v (h.X.set i (addEnt s j n, Value.slice (some ⟨g, 0, none⟩) (n.ents.length + 1) cap)), _, y, rfl, rfl, List.length_set, hm, hxi, ?_, rfl, rfl, r1, hB.trans r2⟩
    rw [List.getElem?_set, if_neg e]
    exact hy
theorem links_end {h h1 : Fsh} {w w2 : World} (H : Fs h1 w2) (hG : Grew h h1 w w2) (hp : h1.p = h.p) {m : List Nd} (hm : h1.M = m) {g cap : Nat} (hv : h1.v = .slice (some ⟨g, 0, none⟩) h1.X.length cap) {i : Nat} {x : Nd × Value} (hx : h1.X[i]? = some x) :
    ∃ h', h'.p = h.p ∧ h'.M = m.modify i moreLinks ∧ Fs h' (w2.setCell ⟨g, i * 17 + 8, none⟩ (.int .i64 (x.1.links + 1))) ∧ Grew h h' w (w2.setCell ⟨g, i * 17 + 8, none⟩ (.int .i64 (x.1.links + 1))) := by
  obtain ⟨r1, r2⟩ := H.set hv (n' := moreLinks x.1) (n := x.1) (ev := x.2) hx (k := 8) (by omega) (u := .int .i64 (x.1.links + 1)) rfl rfl
  exact ⟨Fsh.mk h1.p h1.v (h1.X.set i (moreLinks x.1, x.2)), hp, by rw [← hm]; exact map_set moreLinks hx, r1, hG.trans r2⟩
theorem enter_any (h : Fsh) (i j : Nat) (x y : Nd × Value) (s : ByteArray) (w : World) (H : Fs h w) (hx : h.X[i]? = some x) (hy : h.X[j]? = some y) (hxl : 0 ≤ x.1.links ∧ x.1.links ≤ 1000000) (hyl : 0 ≤ y.1.links ∧ y.1.links ≤ 1000000) (hxe : x.1.ents.length ≤ 1000000) :
    Calls Tryz.prog 65 #[.pointer (some ⟨h.p, 0, none⟩), .int .i64 (i : Int), .string s, .int .i64 (j : Int)] w fun e w' => e = .returned (.tuple #[]) ∧
      ∃ h', h'.p = h.p ∧ h'.M = (h.M.modify i (addEnt s j)).modify (if y.1.kind = 2 then i else j) moreLinks ∧ Fs h' w' ∧ Grew h h' w w' := by
  have hi : i < h.X.length := (List.getElem?_eq_some_iff.1 hx).1
  have hj : j < h.X.length := (List.getElem?_eq_some_iff.1 hy).1
  obtain ⟨g, cap, hv, _, _⟩ := H.slice (by omega)
  have c0 := H.cell0
  rw [hv] at c0
  have c16 := H.at_node hv hx (k := 16) (by omega) rfl
  have f16 := H.frozen_node hv (i * 17 + 16)
  obtain ⟨n, ev⟩ := x
  obtain ⟨eo, ec, hev⟩ : ∃ ao cap, ev = .slice ao n.ents.length cap := by
    rcases (H.ents _ (List.mem_of_getElem? hx)).2 with ⟨e, e2⟩ | ⟨g, cap, cur, e, _⟩
    · exact ⟨none, 0, by have e' : ev = _ := e; have e3 : n.ents.length = 0 := e2; rw [e', e3]⟩
    · exact ⟨_, cap, e⟩
  obtain ⟨i0, hi0, hz0, hz1, hz2⟩ := info_parts infoEntry
  have HO := Lib.hid (show w.ownsRow 0 46 2 ev n.ents.length (entCells n.ents) from H.ents _ (List.mem_of_getElem? hx))
  have HH := Lib.hid H
  have HV := Lib.hid hv
  have HX := Lib.hid hx
  have HY := Lib.hid hy
  have hgl : g < w.heap.size := H.lt (.inr (.inl (by rw [hv]; rfl)))
  have HLT := Lib.hid (show ∀ o, g < (w.alloc o).heap.size from fun o => by simp; omega)
  have HNE := Lib.hid (show some g ≠ ev.ownBlock from fun e => H.v_ne_ent (List.mem_of_getElem? hx) e.symm (by rw [hv]; rfl) rfl)
  have C16 := Lib.hid (show ∀ o, (w.alloc o).cell? ⟨g, i * 17 + 16, none⟩ = some ev from fun o => (World.cell?_alloc_past _ _ _ hgl).trans c16)
  have F16 := Lib.hid (show ∀ o, (w.alloc o).frozen? ⟨g, i * 17 + 16, none⟩ = false from fun o => (World.frozen?_alloc_past _ _ _ hgl).trans f16)
  have hl0 : 0 ≤ n.links := hxl.1
  have hl1 : n.links ≤ 1000000 := hxl.2
  have hm0 : 0 ≤ y.1.links := hyl.1
  have hm1 : y.1.links ≤ 1000000 := hyl.2
  have hle : n.ents.length ≤ 1000000 := hxe
  have hmx : n.ents.length + 1 ≤ maxLen := by unfold maxLen; omega
  have HM := Lib.hid hmx
  clear hxl hyl hxe hmx
  have HE := Lib.hid hev
  clear hev hv hx hy
  go_enter Tryz.func65, Tryz.ntmps65
  go_upto_region 2 with (at_builtin; (refine wpList_append_lies _ rfl (.tmp 19) (.tmp 23) 23 rfl 0 46 i0 _ 2 24 Tryz.underlying23 hi0 hz0 hz1 hz2 rfl (by decide) ev n.ents.length (entCells n.ents) rfl (HO.out.alloc _) ⟨w.heap.size, 0, none⟩ 1 1 [.string s, .int .i64 (j : Int)] rfl rfl (World.news_of_block (heap_alloc_new _ _)) (by intro u hu; simp at hu; rcases hu with rfl | rfl <;> rfl) (by decide) HM.out (by omega) (Nat.zero_le _) _ rfl ?_; intro g1 cap1 w1 hown1 hgrow hat hlt1; have q1 := (hgrow.cell_far ⟨g, i * 17 + 16, none⟩ (HLT.out _) HNE.out).trans (C16.out _); have q2 := (hgrow.frozen_far ⟨g, i * 17 + 16, none⟩ (HLT.out _) HNE.out).trans (F16.out _); have R := Lib.hid (enter_mid HH.out HV.out HX.out HY.out hown1 hgrow hat); clear hown1 hgrow hat))
  obtain ⟨h1, ev', y', p1, v1, l1, m1, x1, y1, k1, lk1, H1, G1⟩ := R.out
  clear R q1 q2 hlt1 c16 f16 c0 HLT C16 F16 HM HO
  generalize w1.setCell ⟨g, i * 17 + 16, none⟩ (.slice (some ⟨g1, 0, none⟩) (n.ents.length + 1) cap1) = w2 at *
  have hv1 : h1.v = .slice (some ⟨g, 0, none⟩) h1.X.length cap := by rw [v1, HV.out, l1]
  have d0 := H1.cell0
  rw [hv1, p1, l1] at d0
  have dd := isDir_any h1 j y' w2 H1 y1
  rw [p1, k1] at dd
  have DD := Lib.hid dd
  clear dd
  by_cases hk : y.1.kind = 2
  · have hkb : (y.1.kind == 2) = true := by simp [hk]
    have e8 := H1.at_node hv1 x1 (k := 8) (by omega) rfl
    have e8' : w2.cell? ⟨g, i * 17 + 8, none⟩ = some (.int .i64 n.links) := e8
    have fz := H1.frozen_node hv1 (i * 17 + 8)
    have R2 := Lib.hid (links_end H1 G1 p1 m1 hv1 x1)
    rw [show (addEnt s j n, ev').1.links = n.links from rfl] at R2
    clear e8 hv1 x1 y1 m1 H1 G1 k1 lk1 v1 l1 p1
    have HK := Lib.hid hk
    clear hk
    go_wp2_with (refine DD.out.mono ?_; rintro e w3 ⟨rfl, hw⟩; subst hw; rw [hkb])
    go_end0
    exact ⟨rfl, R2.out⟩
  · have hkb : (y.1.kind == 2) = false := by simp [hk]
    have e8 := H1.at_node hv1 y1 (k := 8) (by omega) rfl
    have e8' : w2.cell? ⟨g, j * 17 + 8, none⟩ = some (.int .i64 y.1.links) := by rw [← lk1]; exact e8
    have fz := H1.frozen_node hv1 (j * 17 + 8)
    have R2 := Lib.hid (links_end H1 G1 p1 m1 hv1 y1)
    rw [lk1] at R2
    clear e8 hv1 x1 y1 m1 H1 G1 k1 lk1 v1 l1 p1
    have HK := Lib.hid hk
    clear hk
    go_wp2_with (refine DD.out.mono ?_; rintro e w3 ⟨rfl, hw⟩; subst hw; rw [hkb])
    go_end0
    exact ⟨rfl, R2.out⟩
end Go.Proofs.YtfhagjnlliafiaaGreatDoor.V
namespace Go.Proofs.YtfhagjnlliafiaaGreatDoor.V
open Go.RowKit
def builtM (M : List Nd) (i : Nat) (s : ByteArray) (n : Nd) (d : Int) : List Nd :=
  ((M ++ [addedNd n d M]).modify i (addEnt s (M.length : Int))).modify (if n.kind = 2 then i else M.length) moreLinks
theorem app_left {α : Type} {X Y : List α} {i : Nat} {x : α} (h : X[i]? = some x) : (X ++ Y)[i]? = some x := by rw [List.getElem?_append_left (List.getElem?_eq_some_iff.1 h).1]; exact h
theorem app_last {α : Type} (X : List α) (x : α) : (X ++ [x])[X.length]? = some x := by rw [List.getElem?_append_right (Nat.le_refl _), Nat.sub_self]; rfl
theorem build_end {h h1 h' : Fsh} {i : Nat} {s : ByteArray} {n : Nd} {d : Int} {w w3 w4 : World} (G : Grew h ⟨h.p, h1.v, h.X ++ [(addedNd n d h.M, .slice none 0 0)]⟩ w w3) (hp : h'.p = h.p)
    (hm : h'.M = ((Fsh.mk h.p h1.v (h.X ++ [(addedNd n d h.M, .slice none 0 0)])).M.modify i (addEnt s (h.X.length : Nat))).modify (if (addedNd n d h.M).kind = 2 then i else h.X.length) moreLinks)
    (H : Fs h' w4) (G4 : Grew ⟨h.p, h1.v, h.X ++ [(addedNd n d h.M, .slice none 0 0)]⟩ h' w3 w4) : h'.p = h.p ∧ h'.M = builtM h.M i s n d ∧ Fs h' w4 ∧ Grew h h' w w4 := by
  refine ⟨hp, ?_, H, G.trans G4⟩
  rw [hm]
  unfold builtM Fsh.M
  rw [List.map_append, List.length_map]
  rfl
theorem build_any (h : Fsh) (i : Nat) (x : Nd × Value) (c : Chg) (n : Nd) (w : World) (H : Fs h w) (hi : c.at_ = (i : Int)) (hx : h.X[i]? = some x) (hn : n.ents = []) (hnl : 0 ≤ n.links ∧ n.links ≤ 1000000) (hX : h.X.length ≤ 1000000) (hxl : 0 ≤ x.1.links ∧ x.1.links ≤ 1000000) (hxe : x.1.ents.length ≤ 1000000) :
    Calls Tryz.prog 63 #[.pointer (some ⟨h.p, 0, none⟩), chgV c, aggOf n] w fun e w' => e = .returned (.int .i64 (h.X.length : Int)) ∧
      ∃ h', h'.p = h.p ∧ h'.M = builtM h.M i c.name n x.1.dev ∧ Fs h' w' ∧ Grew h h' w w' := by
  have hil : i < h.X.length := (List.getElem?_eq_some_iff.1 hx).1
  obtain ⟨g, cap, hv, _, _⟩ := H.slice (by omega)
  have hp : h.p < w.heap.size := H.lt (.inl rfl)
  have hgl : g < w.heap.size := H.lt (.inr (.inl (by rw [hv]; rfl)))
  obtain ⟨w2, hw2⟩ : ∃ w2, (w.alloc (.cells #[.int .i64 c.kind, .int .i64 (i : Int), .int .i64 c.to, .string c.name, .string c.text, .int .i64 c.a, .int .i64 c.b, .int .i64 c.n] 56)).alloc (.cells (n.cells (.slice none 0 0)).toArray 87) = w2 := ⟨_, rfl⟩
  have B2 : Below w.heap.size w w2 := by rw [← hw2]; exact ((Below.refl _ _).alloc (Nat.le_refl _) _).alloc (by simp) _
  have H2 := H.keep B2
  have hb0 : w2.heap[w.heap.size]? = some (.cells #[.int .i64 c.kind, .int .i64 (i : Int), .int .i64 c.to, .string c.name, .string c.text, .int .i64 c.a, .int .i64 c.b, .int .i64 c.n] 56) := by rw [← hw2]; exact heap_alloc2_old _ _ _
  have hb1 : w2.heap[w.heap.size + 1]? = some (.cells (n.cells (.slice none 0 0)).toArray 87) := by rw [← hw2]; exact heap_alloc2_new _ _ _
  have c0 := H2.cell0
  rw [hv] at c0
  have cd := H2.at_node hv hx (k := 0) (by omega) rfl
  have cd' : w2.cell? ⟨g, i * 17, none⟩ = some (.int .i64 x.1.dev) := cd
  have d1 : w2.cell? ⟨w.heap.size, 1, none⟩ = some (.int .i64 (i : Int)) := by rw [cell_of_row _ _ _ _ _ _ hb0]; rfl
  have d3 : w2.cell? ⟨w.heap.size, 3, none⟩ = some (.string c.name) := by rw [cell_of_row _ _ _ _ _ _ hb0]; rfl
  have bx : ∀ j u, (n.cells (.slice none 0 0))[j]? = some u → w2.cell? ⟨w.heap.size + 1, j, none⟩ = some u := fun j u hu => by rw [cell_of_row _ _ _ _ _ _ hb1]; simpa using hu
  have b0 := bx 0 _ rfl
  have b1 := bx 1 _ rfl
  have b2 := bx 2 _ rfl
  have b3 := bx 3 _ rfl
  have b4 := bx 4 _ rfl
  have b5 := bx 5 _ rfl
  have b6 := bx 6 _ rfl
  have b7 := bx 7 _ rfl
  have b8 := bx 8 _ rfl
  have b9 := bx 9 _ rfl
  have b10 := bx 10 _ rfl
  have b11 := bx 11 _ rfl
  have b12 := bx 12 _ rfl
  have b13 := bx 13 _ rfl
  have b14 := bx 14 _ rfl
  have b15 := bx 15 _ rfl
  have b16 := bx 16 _ rfl
  have HW := Lib.hid hw2
  have HB := Lib.hid B2
  have HH2 := Lib.hid H2
  have HD0 := Lib.hid hb0
  clear hw2 B2 H2 hb0 hb1 bx
  have HH := Lib.hid H
  have HX := Lib.hid hx
  obtain ⟨hl0, hl1⟩ := hxl
  obtain ⟨hn0, hn1⟩ := hnl
  have HL0 := Lib.hid hl0
  have HL1 := Lib.hid hl1
  have HN := Lib.hid hn
  have HE := Lib.hid hxe
  clear hx hv cd H hl0 hl1 hxe hn
  unfold chgV aggOf
  rw [hi]
  go_enter Tryz.func63, Tryz.ntmps63
  go_wp2
  rw [HW.out]
  go_still_tail 12, (by kernel_rfl)
  change wpList _ _ _ _ _ w2.drew
  have H2d : Fs h w2.drew := HH2.out.at fun k hk => rfl
  have HA := Lib.hid (add_any h n x.1.dev w2.drew H2d HN.out hX)
  clear H2d
  have hnf : ¬ h.foot w.heap.size := fun e => by have := HH.out.lt e; omega
  have hsl : w.heap.size < w2.drew.heap.size := heap_lt HD0.out
  clear b0 b1 b2 b3 b4 b5 b6 b7 b8 b9 b10 b11 b12 b13 b14 b15 b16 c0 cd' d1 d3
  go_wp2_with (first
    | (go_at_call 34; refine HA.out.mono ?_; rintro e w3 ⟨rfl, v', H3, G3⟩; have hb3 := (G3.kept w.heap.size hsl hnf).trans HD0.out; have e1 : w3.cell? ⟨w.heap.size, 1, none⟩ = some (.int .i64 (i : Int)) := (cell_of_row _ _ _ _ _ _ hb3).trans rfl; have e3 : w3.cell? ⟨w.heap.size, 3, none⟩ = some (.string c.name) := (cell_of_row _ _ _ _ _ _ hb3).trans rfl; have HH3 := Lib.hid H3; have HG3 := Lib.hid G3; clear H3 G3 hb3)
    | (go_at_call 65; refine (enter_any ⟨h.p, v', h.X ++ [(addedNd n x.1.dev h.M, .slice none 0 0)]⟩ i h.X.length x (addedNd n x.1.dev h.M, .slice none 0 0) c.name w3 HH3.out (app_left HX.out) (app_last _ _) ⟨HL0.out, HL1.out⟩ ⟨hn0, hn1⟩ HE.out).mono ?_; rintro e w4 ⟨rfl, h', hp', hm', H4, G4⟩; have R := Lib.hid (build_end (h1 := ⟨h.p, v', []⟩) HG3.out hp' hm' H4 G4); clear hp' hm' H4 G4))
  go_ret
  obtain ⟨r1, r2, r3, r4⟩ := R.out
  exact ⟨rfl, h', r1, r2, r3, (Grew.of_below (HB.out.drew)).trans r4⟩
end Go.Proofs.YtfhagjnlliafiaaGreatDoor.V
