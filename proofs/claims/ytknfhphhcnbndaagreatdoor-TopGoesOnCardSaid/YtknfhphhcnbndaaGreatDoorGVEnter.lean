/-
  What FS.enter makes: a name in a directory, and one more link. Conditions: at most 1000000 entries, and links.
-/
import Derived.Test.YtknfhphhcnbndaaGreatDoorGVAdd
import Derived.Deep.RegionLaw
import Derived.Deep.MidRow
import Derived.Deep.CutRange
set_option linter.unusedVariables false
set_option linter.unusedSimpArgs false
namespace Go.Proofs.YtknfhphhcnbndaaGreatDoor.V
open Go.RowKit

def addEnt (s : ByteArray) (id : Int) (n : Nd) : Nd := { n with ents := n.ents ++ [(s, id)] }
def moreLinks (n : Nd) : Nd := { n with links := n.links + 1 }
theorem infoEntry : (Tryz.prog.info? 177).map (fun i => (i.zero, i.size, i.bytes)) = some (some (.agg #[.string ⟨#[]⟩, .int .i64 0]), 2, 24) := by kernel_rfl
theorem map_set {X : List (Nd × Value)} {i : Nat} {n : Nd} {ev ev' : Value} (f : Nd → Nd) (hx : X[i]? = some (n, ev)) : (X.set i (f n, ev')).map Prod.fst = (X.map Prod.fst).modify i f := by
  apply List.ext_getElem?
  intro j
  rw [List.getElem?_modify, List.getElem?_map, List.getElem?_map, List.getElem?_set]
  have hi := (List.getElem?_eq_some_iff.1 hx).1
  by_cases e : i = j
  · subst e
    have e := (List.getElem?_eq_some_iff.1 hx).2
    simp [hi, e]
  · simp only [if_neg e]
    cases X[j]? <;> rfl

/-- Behind the append and its store: the nodes as they are then. -/
theorem enter_mid {h : Fsh} {w w1 : World} (H : Fs h w) {G C : Nat} (hv : h.v = .slice (some ⟨G, 0, none⟩) h.X.length C) {i j : Nat} {n : Nd} {ev : Value} {y : Nd × Value} (hx : h.X[i]? = some (n, ev)) (hy : h.X[j]? = some y) {s : ByteArray} {g cap : Nat} {o : Obj}
    (ho : w1.ownsRow 0 177 2 (.slice (some ⟨g, 0, none⟩) (n.ents.length + 1) cap) (n.ents.length + 1) (entCells n.ents ++ [.string s, .int .i64 (j : Int)]))
    (hg : (w.alloc o).grownBy w1 ev.ownBlock) (hat : ev.ownBlock = some g ∨ g = (w.alloc o).heap.size) :
    ∃ (h1 : Fsh) (ev' : Value) (y' : Nd × Value), h1.p = h.p ∧ h1.v = h.v ∧ h1.X.length = h.X.length ∧ h1.M = h.M.modify i (addEnt s j) ∧ h1.X[i]? = some (addEnt s j n, ev') ∧ h1.X[j]? = some y' ∧ y'.1.kind = y.1.kind ∧ y'.1.links = y.1.links ∧
      Fs h1 (w1.setCell ⟨G, i * 17 + 16, none⟩ (.slice (some ⟨g, 0, none⟩) (n.ents.length + 1) cap)) ∧ Grew h h1 w (w1.setCell ⟨G, i * 17 + 16, none⟩ (.slice (some ⟨g, 0, none⟩) (n.ents.length + 1) cap)) := by
  have HA : Fs h (w.alloc o) := H.at fun k hk => heap_alloc_old _ _ (H.lt hk)
  obtain ⟨r1, r2⟩ := HA.enter hv hx ho hg hat
  have hi : i < h.X.length := (List.getElem?_eq_some_iff.1 hx).1
  have hxi : (h.X.set i (addEnt s j n, Value.slice (some ⟨g, 0, none⟩) (n.ents.length + 1) cap))[i]? = some (addEnt s j n, Value.slice (some ⟨g, 0, none⟩) (n.ents.length + 1) cap) := by
    rw [List.getElem?_set, if_pos rfl, if_pos hi]
  have hm : (Fsh.mk h.p h.v (h.X.set i (addEnt s j n, Value.slice (some ⟨g, 0, none⟩) (n.ents.length + 1) cap))).M = h.M.modify i (addEnt s j) := map_set (addEnt s j) hx
  have hB : Grew h h w (w.alloc o) := Grew.of_below ((Below.refl _ _).alloc (Nat.le_refl _) _)
  by_cases e : i = j
  · subst e
    rw [hx] at hy
    obtain rfl := Option.some.inj hy
    exact ⟨Fsh.mk h.p h.v (h.X.set i (addEnt s i n, Value.slice (some ⟨g, 0, none⟩) (n.ents.length + 1) cap)), _, _, rfl, rfl, List.length_set, hm, hxi, hxi, rfl, rfl, r1, hB.trans r2⟩
  · refine ⟨Fsh.mk h.p h.v (h.X.set i (addEnt s j n, Value.slice (some ⟨g, 0, none⟩) (n.ents.length + 1) cap)), _, y, rfl, rfl, List.length_set, hm, hxi, ?_, rfl, rfl, r1, hB.trans r2⟩
    rw [List.getElem?_set, if_neg e]
    exact hy

theorem links_end {h h1 : Fsh} {w w2 : World} (H : Fs h1 w2) (hG : Grew h h1 w w2) (hp : h1.p = h.p) {m : List Nd} (hm : h1.M = m) {g cap : Nat} (hv : h1.v = .slice (some ⟨g, 0, none⟩) h1.X.length cap) {i : Nat} {x : Nd × Value} (hx : h1.X[i]? = some x) :
    ∃ h', h'.p = h.p ∧ h'.M = m.modify i moreLinks ∧ Fs h' (w2.setCell ⟨g, i * 17 + 8, none⟩ (.int .i64 (x.1.links + 1))) ∧ Grew h h' w (w2.setCell ⟨g, i * 17 + 8, none⟩ (.int .i64 (x.1.links + 1))) := by
  obtain ⟨r1, r2⟩ := H.set hv (n' := moreLinks x.1) (n := x.1) (ev := x.2) hx (k := 8) (by omega) (u := .int .i64 (x.1.links + 1)) rfl rfl
  exact ⟨Fsh.mk h1.p h1.v (h1.X.set i (moreLinks x.1, x.2)), hp, by rw [← hm]; exact map_set moreLinks hx, r1, hG.trans r2⟩

set_option maxRecDepth 100000 in
set_option maxHeartbeats 4000000 in
theorem enter_any (h : Fsh) (i j : Nat) (x y : Nd × Value) (s : ByteArray) (w : World) (H : Fs h w) (hx : h.X[i]? = some x) (hy : h.X[j]? = some y) (hxl : 0 ≤ x.1.links ∧ x.1.links ≤ 1000000) (hyl : 0 ≤ y.1.links ∧ y.1.links ≤ 1000000) (hxe : x.1.ents.length ≤ 1000000) :
    Calls Tryz.prog 129 #[.pointer (some ⟨h.p, 0, none⟩), .int .i64 (i : Int), .string s, .int .i64 (j : Int)] w fun e w' => e = .returned (.tuple #[]) ∧
      ∃ h', h'.p = h.p ∧ h'.M = (h.M.modify i (addEnt s j)).modify (if y.1.kind = 2 then i else j) moreLinks ∧ Fs h' w' ∧ Grew h h' w w' := by
  have hi : i < h.X.length := (List.getElem?_eq_some_iff.1 hx).1
  have hj : j < h.X.length := (List.getElem?_eq_some_iff.1 hy).1
  obtain ⟨g, cap, hv, _, _⟩ := H.slice (by omega)
  have c0 := H.cell0
  rw [hv] at c0
  have c16 := H.at_node hv hx (k := 16) (by omega) rfl
  have f16 := H.frozen_node hv (i * 17 + 16)
  obtain ⟨n, ev⟩ := x
  obtain ⟨eo, ec, hev⟩ : ∃ ao cap, ev = .slice ao n.ents.length cap := by
    rcases (H.ents _ (List.mem_of_getElem? hx)).2 with ⟨e, e2⟩ | ⟨g, cap, cur, e, _⟩
    · exact ⟨none, 0, by have e' : ev = _ := e; have e3 : n.ents.length = 0 := e2; rw [e', e3]⟩
    · exact ⟨_, cap, e⟩
  obtain ⟨i0, hi0, hz0, hz1, hz2⟩ := info_parts infoEntry
  have HO := Lib.hid (show w.ownsRow 0 177 2 ev n.ents.length (entCells n.ents) from H.ents _ (List.mem_of_getElem? hx))
  have HH := Lib.hid H
  have HV := Lib.hid hv
  have HX := Lib.hid hx
  have HY := Lib.hid hy
  have hgl : g < w.heap.size := H.lt (.inr (.inl (by rw [hv]; rfl)))
  have HLT := Lib.hid (show ∀ o, g < (w.alloc o).heap.size from fun o => by simp; omega)
  have HNE := Lib.hid (show some g ≠ ev.ownBlock from fun e => H.v_ne_ent (List.mem_of_getElem? hx) e.symm (by rw [hv]; rfl) rfl)
  have C16 := Lib.hid (show ∀ o, (w.alloc o).cell? ⟨g, i * 17 + 16, none⟩ = some ev from fun o => (World.cell?_alloc_past _ _ _ hgl).trans c16)
  have F16 := Lib.hid (show ∀ o, (w.alloc o).frozen? ⟨g, i * 17 + 16, none⟩ = false from fun o => (World.frozen?_alloc_past _ _ _ hgl).trans f16)
  have hl0 : 0 ≤ n.links := hxl.1
  have hl1 : n.links ≤ 1000000 := hxl.2
  have hm0 : 0 ≤ y.1.links := hyl.1
  have hm1 : y.1.links ≤ 1000000 := hyl.2
  have hle : n.ents.length ≤ 1000000 := hxe
  have hmx : n.ents.length + 1 ≤ maxLen := by unfold maxLen; omega
  have HM := Lib.hid hmx
  clear hxl hyl hxe hmx
  have HE := Lib.hid hev
  clear hev hv hx hy
  go_enter Tryz.func129, Tryz.ntmps129
  go_upto_region 2 with (at_builtin; (refine wpList_append_lies _ rfl (.tmp 19) (.tmp 23) 133 rfl 0 177 i0 _ 2 24 Tryz.underlying133 hi0 hz0 hz1 hz2 rfl (by decide) ev n.ents.length (entCells n.ents) rfl (HO.out.alloc _) ⟨w.heap.size, 0, none⟩ 1 1 [.string s, .int .i64 (j : Int)] rfl rfl (World.news_of_block (heap_alloc_new _ _)) (by intro u hu; simp at hu; rcases hu with rfl | rfl <;> rfl) (by decide) HM.out (by omega) (Nat.zero_le _) _ rfl ?_; intro g1 cap1 w1 hown1 hgrow hat hlt1; have q1 := (hgrow.cell_far ⟨g, i * 17 + 16, none⟩ (HLT.out _) HNE.out).trans (C16.out _); have q2 := (hgrow.frozen_far ⟨g, i * 17 + 16, none⟩ (HLT.out _) HNE.out).trans (F16.out _); have R := Lib.hid (enter_mid HH.out HV.out HX.out HY.out hown1 hgrow hat); clear hown1 hgrow hat))
  obtain ⟨h1, ev', y', p1, v1, l1, m1, x1, y1, k1, lk1, H1, G1⟩ := R.out
  clear R q1 q2 hlt1 c16 f16 c0 HLT C16 F16 HM HO
  generalize w1.setCell ⟨g, i * 17 + 16, none⟩ (.slice (some ⟨g1, 0, none⟩) (n.ents.length + 1) cap1) = w2 at *
  have hv1 : h1.v = .slice (some ⟨g, 0, none⟩) h1.X.length cap := by rw [v1, HV.out, l1]
  have d0 := H1.cell0
  rw [hv1, p1, l1] at d0
  have dd := isDir_any h1 j y' w2 H1 y1
  rw [p1, k1] at dd
  have DD := Lib.hid dd
  clear dd
  by_cases hk : y.1.kind = 2
  · have hkb : (y.1.kind == 2) = true := by simp [hk]
    have e8 := H1.at_node hv1 x1 (k := 8) (by omega) rfl
    have e8' : w2.cell? ⟨g, i * 17 + 8, none⟩ = some (.int .i64 n.links) := e8
    have fz := H1.frozen_node hv1 (i * 17 + 8)
    have R2 := Lib.hid (links_end H1 G1 p1 m1 hv1 x1)
    rw [show (addEnt s j n, ev').1.links = n.links from rfl] at R2
    clear e8 hv1 x1 y1 m1 H1 G1 k1 lk1 v1 l1 p1
    have HK := Lib.hid hk
    clear hk
    go_wp2_with (refine DD.out.mono ?_; rintro e w3 ⟨rfl, hw⟩; subst hw; rw [hkb])
    go_end0
    exact ⟨rfl, R2.out⟩
  · have hkb : (y.1.kind == 2) = false := by simp [hk]
    have e8 := H1.at_node hv1 y1 (k := 8) (by omega) rfl
    have e8' : w2.cell? ⟨g, j * 17 + 8, none⟩ = some (.int .i64 y.1.links) := by rw [← lk1]; exact e8
    have fz := H1.frozen_node hv1 (j * 17 + 8)
    have R2 := Lib.hid (links_end H1 G1 p1 m1 hv1 y1)
    rw [lk1] at R2
    clear e8 hv1 x1 y1 m1 H1 G1 k1 lk1 v1 l1 p1
    have HK := Lib.hid hk
    clear hk
    go_wp2_with (refine DD.out.mono ?_; rintro e w3 ⟨rfl, hw⟩; subst hw; rw [hkb])
    go_end0
    exact ⟨rfl, R2.out⟩
end Go.Proofs.YtknfhphhcnbndaaGreatDoor.V
