/-
  What node.set makes of a node: its mode, its owner and group, a time, or that it can't be read. Conditions: the change is one of these, and of a time that there is.
  What FS.carryOut makes of a file system. Conditions: nothing is wrong with the change; at most 1000000 nodes, entries and links.
-/
import Derived.Test.YtknfhphhcnbndaaGreatDoorGVBuild
import Derived.Test.YtknfhphhcnbndaaGreatDoorGVEnter
import Derived.Test.YtknfhphhcnbndaaGreatDoorGVRefuse
import Derived.Test.YtknfhphhcnbndaaGreatDoorGVCover
import Derived.Deep.RegionHeld3
set_option linter.unusedSimpArgs false
set_option linter.unusedVariables false
namespace Go.Proofs.YtknfhphhcnbndaaGreatDoor.V
open Go.RowKit

def maxI (a b : Int) : Int := if a < b then b else a
def setNd (c : Chg) (n : Nd) : Nd :=
  if c.kind = 4 then { n with mode := c.a % 4096 }
  else if c.kind = 5 then { n with uid := maxI c.a 0, gid := maxI c.b 0 }
  else if c.kind = 6 then (if c.a = 0 then { n with t0 := c.n } else if c.a = 1 then { n with t1 := c.n } else { n with t2 := c.n })
  else { n with dead := true }
theorem setNd_ents (c : Chg) (n : Nd) : (setNd c n).ents = n.ents := by
  unfold setNd
  repeat' split
  all_goals rfl

/-- One store into a node, behind whatever has been stored already. -/
theorem set_end {h h1 : Fsh} {w w2 : World} (H : Fs h1 w2) (hG : Grew h h1 w w2) (hp : h1.p = h.p) (hvv : h1.v = h.v) {g cap : Nat} (hv : h1.v = .slice (some ⟨g, 0, none⟩) h1.X.length cap) {i : Nat} {n0 n n' : Nd} {ev : Value} (hx0 : h.X[i]? = some (n0, ev)) (hX : h1.X = h.X.set i (n, ev)) {k : Nat} (hk : k < 17) {u : Value}
    (hs : n'.cells ev = (n.cells ev).set k u) (he : n'.ents = n.ents) :
    Fs ⟨h.p, h.v, h.X.set i (n', ev)⟩ (w2.setCell ⟨g, i * 17 + k, none⟩ u) ∧ Grew h ⟨h.p, h.v, h.X.set i (n', ev)⟩ w (w2.setCell ⟨g, i * 17 + k, none⟩ u) := by
  have hi := (List.getElem?_eq_some_iff.1 hx0).1
  have hx : h1.X[i]? = some (n, ev) := by rw [hX, List.getElem?_set, if_pos rfl, if_pos hi]
  obtain ⟨r1, r2⟩ := H.set hv hx hk hs he
  have e : (⟨h1.p, h1.v, h1.X.set i (n', ev)⟩ : Fsh) = ⟨h.p, h.v, h.X.set i (n', ev)⟩ := by rw [hp, hvv, hX, List.set_set]
  rw [e] at r1 r2
  exact ⟨r1, hG.trans r2⟩

def SetTo (c : Chg) (h : Fsh) (i : Nat) (n : Nd) (ev : Value) (w w' : World) : Prop := Fs ⟨h.p, h.v, h.X.set i (setNd c n, ev)⟩ w' ∧ Grew h ⟨h.p, h.v, h.X.set i (setNd c n, ev)⟩ w w'
theorem SetTo.below {c : Chg} {h : Fsh} {i : Nat} {n : Nd} {ev : Value} {w w1 w2 : World} (H : SetTo c h i n ev w w1) (hb : Below w1.heap.size w1 w2) : SetTo c h i n ev w w2 := ⟨H.1.keep hb, H.2.trans (Grew.of_below hb)⟩
theorem setTo_one {c : Chg} {h : Fsh} {w : World} (H : Fs h w) {g cap : Nat} (hv : h.v = .slice (some ⟨g, 0, none⟩) h.X.length cap) {i : Nat} {n : Nd} {ev : Value} (hx : h.X[i]? = some (n, ev)) {k : Nat} (hk : k < 17) {u : Value} (hs : (setNd c n).cells ev = (n.cells ev).set k u) (o : Obj) :
    SetTo c h i n ev w ((w.setCell ⟨g, i * 17 + k, none⟩ u).alloc o) :=
  SetTo.below (H.set hv hx hk hs (setNd_ents c n)) ((Below.refl _ _).alloc (Nat.le_refl _) _)
theorem setTo_two {c : Chg} {h : Fsh} {w : World} (H : Fs h w) {g cap : Nat} (hv : h.v = .slice (some ⟨g, 0, none⟩) h.X.length cap) {i : Nat} {n n1 : Nd} {ev : Value} (hx : h.X[i]? = some (n, ev)) {k l : Nat} (hk : k < 17) (hl : l < 17) {u u2 : Value} (hs1 : n1.cells ev = (n.cells ev).set k u) (he : n1.ents = n.ents) (hs : (setNd c n).cells ev = (n1.cells ev).set l u2) :
    SetTo c h i n ev w ((w.setCell ⟨g, i * 17 + k, none⟩ u).setCell ⟨g, i * 17 + l, none⟩ u2) := by
  obtain ⟨r1, r2⟩ := H.set hv hx hk hs1 he
  exact set_end r1 r2 rfl rfl (by show h.v = _; rw [hv]; show _ = Value.slice _ (h.X.set i _).length _; rw [List.length_set]) hx rfl hl hs (by rw [setNd_ents, he])
theorem below_ad (w : World) (o : Obj) : Below w.heap.size w (w.alloc o).drew := ((Below.refl _ _).alloc (Nat.le_refl _) _).drew

theorem set_owner {c : Chg} {h : Fsh} {w : World} (H : Fs h w) {g cap : Nat} (hv : h.v = .slice (some ⟨g, 0, none⟩) h.X.length cap) {i : Nat} {n : Nd} {ev : Value} (hx : h.X[i]? = some (n, ev)) (hk : c.kind = 5) {a b : Int} (ha : maxI c.a 0 = a) (hb : maxI c.b 0 = b) (o : Obj) :
    SetTo c h i n ev w (((w.setCell ⟨g, i * 17 + 4, none⟩ (.int .i64 a)).setCell ⟨g, i * 17 + 5, none⟩ (.int .i64 b)).alloc o).drew := by
  have r := setTo_two (c := c) H hv hx (n1 := { n with uid := a }) (k := 4) (l := 5) (by omega) (by omega) (u := .int .i64 a) (u2 := .int .i64 b) rfl rfl (by unfold setNd; rw [if_neg (by omega), if_pos hk, ha, hb]; rfl)
  exact r.below (below_ad _ _)
theorem set_time {c : Chg} {h : Fsh} {w : World} (H : Fs h w) {g cap : Nat} (hv : h.v = .slice (some ⟨g, 0, none⟩) h.X.length cap) {i : Nat} {n : Nd} {ev : Value} (hx : h.X[i]? = some (n, ev)) {k : Nat} (hk : k < 17) {u : Value} (hs : (setNd c n).cells ev = (n.cells ev).set k u) (o : Obj) :
    SetTo c h i n ev w ((w.setCell ⟨g, i * 17 + k, none⟩ u).alloc o).drew :=
  SetTo.below (H.set hv hx hk hs (setNd_ents c n)) (below_ad _ _)

set_option maxRecDepth 100000 in
set_option maxHeartbeats 4000000 in
theorem set_any (h : Fsh) (g cap i : Nat) (n : Nd) (ev : Value) (c : Chg) (w : World) (H : Fs h w) (hv : h.v = .slice (some ⟨g, 0, none⟩) h.X.length cap) (hx : h.X[i]? = some (n, ev)) (hc : c.kind = 4 ∨ c.kind = 5 ∨ (c.kind = 6 ∧ 0 ≤ c.a ∧ c.a ≤ 2) ∨ c.kind = 8) :
    Calls Tryz.prog 132 #[.pointer (some ⟨g, i * 17, none⟩), chgV c] w fun e w' => e = .returned (.tuple #[]) ∧ SetTo c h i n ev w w' := by
  have hgl : g < w.heap.size := H.lt (.inr (.inl (by rw [hv]; rfl)))
  have fz := H.frozen_node hv
  have ca : ∀ k u, (nc (n, ev))[k]? = some u → w.cell? ⟨g, i * 17 + k, none⟩ = some u := fun k u hu => (H.at_node hv hx (show k < 17 from by have := (List.getElem?_eq_some_iff.1 hu).1; rwa [nc_len] at this) hu)
  have c3 := ca 3 _ rfl
  have c4 := ca 4 _ rfl
  have c5 := ca 5 _ rfl
  have c9 := ca 9 _ rfl
  have c10 := ca 10 _ rfl
  have c11 := ca 11 _ rfl
  have c13 := ca 13 _ rfl
  have f3 := fz (i * 17 + 3)
  have f4 := fz (i * 17 + 4)
  have f5 := fz (i * 17 + 5)
  have f9 := fz (i * 17 + 9)
  have f10 := fz (i * 17 + 10)
  have f11 := fz (i * 17 + 11)
  have f13 := fz (i * 17 + 13)
  have HH := Lib.hid H
  have HV := Lib.hid hv
  have HX := Lib.hid hx
  clear fz ca hv hx H
  unfold chgV
  rcases hc with hk | hk | ⟨hk, ha0, ha2⟩ | hk
  · clear c4 c5 c9 c10 c11 c13 f4 f5 f9 f10 f11 f13
    go_enter Tryz.func132, Tryz.ntmps132
    go_wp2
    go_end0
    exact ⟨rfl, setTo_one HH.out HV.out HX.out (k := 3) (by omega) (by unfold setNd; rw [if_pos hk, and_mode]; rfl) _⟩
  · clear c3 c9 c10 c11 c13 f3 f9 f10 f11 f13
    go_enter Tryz.func132, Tryz.ntmps132
    go_wp2
    go_region
    all_goals go_wp2
    all_goals go_end0
    all_goals exact ⟨rfl, set_owner HH.out HV.out HX.out hk (by unfold maxI; split <;> omega) (by unfold maxI; split <;> omega) _⟩
  · clear c3 c4 c5 c13 f3 f4 f5 f13
    have hk' : c.kind ≠ 4 := by omega
    have hk5 : c.kind ≠ 5 := by omega
    have hS := Lib.hid (show setNd c n = (if c.a = 0 then { n with t0 := c.n } else if c.a = 1 then { n with t1 := c.n } else { n with t2 := c.n }) from by unfold setNd; rw [if_neg hk', if_neg hk5, if_pos hk])
    clear hk' hk5
    have h3 : c.a = 0 ∨ c.a = 1 ∨ c.a = 2 := by omega
    rcases h3 with ha | ha | ha
    · clear ha0 ha2
      go_enter Tryz.func132, Tryz.ntmps132
      go_wp2
      go_region
      all_goals go_wp2
      all_goals go_end0
      all_goals exact ⟨rfl, set_time HH.out HV.out HX.out (k := 9) (by omega) (by rw [hS.out, if_pos ha]; rfl) _⟩
    · clear ha0 ha2
      go_enter Tryz.func132, Tryz.ntmps132
      go_wp2
      go_region
      all_goals go_wp2
      all_goals go_end0
      all_goals exact ⟨rfl, set_time HH.out HV.out HX.out (k := 10) (by omega) (by rw [hS.out, if_neg (by omega), if_pos ha]; rfl) _⟩
    · clear ha0 ha2
      go_enter Tryz.func132, Tryz.ntmps132
      go_wp2
      go_region
      all_goals go_wp2
      all_goals go_end0
      all_goals exact ⟨rfl, set_time HH.out HV.out HX.out (k := 11) (by omega) (by rw [hS.out, if_neg (by omega), if_neg (by omega)]; rfl) _⟩
  · clear c3 c4 c5 c9 c10 c11 f3 f4 f5 f9 f10 f11
    go_enter Tryz.func132, Tryz.ntmps132
    go_wp2
    go_end0
    exact ⟨rfl, setTo_one HH.out HV.out HX.out (k := 13) (by omega) (by unfold setNd; rw [if_neg (by omega), if_neg (by omega), if_neg (by omega)]; rfl) _⟩
end Go.Proofs.YtknfhphhcnbndaaGreatDoor.V

namespace Go.Proofs.YtknfhphhcnbndaaGreatDoor.V
open Go.RowKit

/-- What is behind a call that made something of the file system: the change's box is as it was. -/
theorem box_grew {h h' : Fsh} {w2 w3 : World} {k : Nat} {o : Obj} (hb : w2.heap[k]? = some o) (G : Grew h h' w2 w3) (hf : ¬ h.foot k) : w3.heap[k]? = some o := (G.kept k (heap_lt hb) hf).trans hb

set_option maxRecDepth 100000 in
set_option maxHeartbeats 4000000 in
theorem carry_0 (h : Fsh) (i : Nat) (x : Nd × Value) (c : Chg) (w : World) (H : Fs h w) (hk : c.kind = 0) (hi : c.at_ = (i : Int)) (hx : h.X[i]? = some x) (hX : h.X.length ≤ 1000000) (hxl : 0 ≤ x.1.links ∧ x.1.links ≤ 1000000) (hxe : x.1.ents.length ≤ 1000000) :
    Calls Tryz.prog 80 #[.pointer (some ⟨h.p, 0, none⟩), chgV c] w fun e w' => e = .returned (.int .i64 (h.X.length : Int)) ∧
      ∃ h', h'.p = h.p ∧ h'.M = builtM h.M i c.name (dirNd (c.a % 4096) c.at_) x.1.dev ∧ Fs h' w' ∧ Grew h h' w w' := by
  have HBa := Lib.hid (show Below w.heap.size w (w.alloc (chgBox c)).drew from ((Below.refl _ _).alloc (Nat.le_refl _) _).drew)
  have HK := Lib.hid (show ∀ W, Below w.heap.size w W → Fs h W from fun W hb => H.keep hb)
  have HNF := Lib.hid (show ¬ h.foot w.heap.size from fun e => by have := H.lt e; omega)
  have HX0 := Lib.hid (show (w.alloc (chgBox c)).drew.heap[w.heap.size]? = some (chgBox c) from heap_alloc_new _ _)
  have HX := Lib.hid hx
  have t0 : (c.kind == 0) = true := kind_yes 0 (by omega)
  have t1 : (c.kind == 1) = false := kind_no 1 (by omega)
  have t2 : (c.kind == 2) = false := kind_no 2 (by omega)
  have t3 : (c.kind == 3) = false := kind_no 3 (by omega)
  have t7 : (c.kind == 7) = false := kind_no 7 (by omega)
  have HI := Lib.hid hi
  have HL := Lib.hid hxl
  have HE := Lib.hid hxe
  clear hk hi hx hxl hxe H
  unfold chgV
  go_enter Tryz.func80, Tryz.ntmps80
  go_wp2
  go_region_held3 (fun w' => w'.cell? ⟨w.heap.size, 0, none⟩ = some (.int .i64 c.kind) ∧ w'.cell? ⟨w.heap.size, 1, none⟩ = some (.int .i64 c.at_) ∧ w'.cell? ⟨w.heap.size, 2, none⟩ = some (.int .i64 c.to) ∧ w'.cell? ⟨w.heap.size, 3, none⟩ = some (.string c.name) ∧ w'.cell? ⟨w.heap.size, 4, none⟩ = some (.string c.text) ∧ w'.cell? ⟨w.heap.size, 5, none⟩ = some (.int .i64 c.a) ∧ w'.cell? ⟨w.heap.size, 6, none⟩ = some (.int .i64 c.b) ∧ w'.cell? ⟨w.heap.size, 7, none⟩ = some (.int .i64 c.n)) (first | exact hk3 | exact hk2 | exact chg_cells HX0.out) (first
    | (go_at_call 78; refine (directory_any c.a c.at_ _).mono ?_; rintro e w2 ⟨rfl, hb2⟩; have HB2 := Lib.hid (below_two HBa.out hb2); have HX2 := Lib.hid (box_keep2 HX0.out hb2); have hk2 := chg_cells HX2.out; clear hb2)
    | (go_at_call 127; refine (build_any h i x c (dirNd (c.a % 4096) c.at_) _ (HK.out _ HB2.out) HI.out HX.out rfl ⟨by show (0 : Int) ≤ 2; decide, by show (2 : Int) ≤ 1000000; decide⟩ hX HL.out HE.out).mono ?_; rintro e w3 ⟨rfl, h', hp', hm', H3, G3⟩; have hk3 := chg_cells (box_grew HX2.out G3 HNF.out); have R := Lib.hid (show ∃ h', h'.p = h.p ∧ h'.M = builtM h.M i c.name (dirNd (c.a % 4096) c.at_) x.1.dev ∧ Fs h' w3 ∧ Grew h h' w w3 from ⟨h', hp', hm', H3, (Grew.of_below HB2.out).trans G3⟩); clear hp' hm' H3 G3))
  all_goals go_wp2
  all_goals go_ret
  all_goals exact ⟨rfl, R.out⟩

set_option maxRecDepth 100000 in
set_option maxHeartbeats 4000000 in
theorem carry_1 (h : Fsh) (i : Nat) (x : Nd × Value) (c : Chg) (w : World) (H : Fs h w) (hk : c.kind = 1) (hi : c.at_ = (i : Int)) (hx : h.X[i]? = some x) (hX : h.X.length ≤ 1000000) (hxl : 0 ≤ x.1.links ∧ x.1.links ≤ 1000000) (hxe : x.1.ents.length ≤ 1000000) (hn0 : 0 ≤ c.n) (hn1 : c.n ≤ 9223372036854775807) :
    Calls Tryz.prog 80 #[.pointer (some ⟨h.p, 0, none⟩), chgV c] w fun e w' => e = .returned (.int .i64 (h.X.length : Int)) ∧
      ∃ h', h'.p = h.p ∧ h'.M = builtM h.M i c.name (fileNd (c.a % 4096) c.n (blkOf c.n)) x.1.dev ∧ Fs h' w' ∧ Grew h h' w w' := by
  have HBa := Lib.hid (show Below w.heap.size w (w.alloc (chgBox c)).drew from ((Below.refl _ _).alloc (Nat.le_refl _) _).drew)
  have HK := Lib.hid (show ∀ W, Below w.heap.size w W → Fs h W from fun W hb => H.keep hb)
  have HNF := Lib.hid (show ¬ h.foot w.heap.size from fun e => by have := H.lt e; omega)
  have HX0 := Lib.hid (show (w.alloc (chgBox c)).drew.heap[w.heap.size]? = some (chgBox c) from heap_alloc_new _ _)
  have HX := Lib.hid hx
  have t0 : (c.kind == 0) = false := kind_no 0 (by omega)
  have t1 : (c.kind == 1) = true := kind_yes 1 (by omega)
  have t2 : (c.kind == 2) = false := kind_no 2 (by omega)
  have t3 : (c.kind == 3) = false := kind_no 3 (by omega)
  have t7 : (c.kind == 7) = false := kind_no 7 (by omega)
  have HI := Lib.hid hi
  have HL := Lib.hid hxl
  have HE := Lib.hid hxe
  have HN0 := Lib.hid hn0
  have HN1 := Lib.hid hn1
  clear hn0 hn1
  clear hk hi hx hxl hxe H
  unfold chgV
  go_enter Tryz.func80, Tryz.ntmps80
  go_wp2
  go_region_held3 (fun w' => w'.cell? ⟨w.heap.size, 0, none⟩ = some (.int .i64 c.kind) ∧ w'.cell? ⟨w.heap.size, 1, none⟩ = some (.int .i64 c.at_) ∧ w'.cell? ⟨w.heap.size, 2, none⟩ = some (.int .i64 c.to) ∧ w'.cell? ⟨w.heap.size, 3, none⟩ = some (.string c.name) ∧ w'.cell? ⟨w.heap.size, 4, none⟩ = some (.string c.text) ∧ w'.cell? ⟨w.heap.size, 5, none⟩ = some (.int .i64 c.a) ∧ w'.cell? ⟨w.heap.size, 6, none⟩ = some (.int .i64 c.b) ∧ w'.cell? ⟨w.heap.size, 7, none⟩ = some (.int .i64 c.n)) (first | exact hk3 | exact hk2 | exact chg_cells HX0.out) (first
    | (go_at_call 128; refine (file_any c.a c.n _ HN0.out HN1.out).mono ?_; rintro e w2 ⟨rfl, hb2⟩; have HB2 := Lib.hid (below_two HBa.out hb2); have HX2 := Lib.hid (box_keep2 HX0.out hb2); have hk2 := chg_cells HX2.out; clear hb2)
    | (go_at_call 127; refine (build_any h i x c (fileNd (c.a % 4096) c.n (blkOf c.n)) _ (HK.out _ HB2.out) HI.out HX.out rfl ⟨by show (0 : Int) ≤ 0; decide, by show (0 : Int) ≤ 1000000; decide⟩ hX HL.out HE.out).mono ?_; rintro e w3 ⟨rfl, h', hp', hm', H3, G3⟩; have hk3 := chg_cells (box_grew HX2.out G3 HNF.out); have R := Lib.hid (show ∃ h', h'.p = h.p ∧ h'.M = builtM h.M i c.name (fileNd (c.a % 4096) c.n (blkOf c.n)) x.1.dev ∧ Fs h' w3 ∧ Grew h h' w w3 from ⟨h', hp', hm', H3, (Grew.of_below HB2.out).trans G3⟩); clear hp' hm' H3 G3))
  all_goals go_wp2
  all_goals go_ret
  all_goals exact ⟨rfl, R.out⟩

set_option maxRecDepth 100000 in
set_option maxHeartbeats 4000000 in
theorem carry_3 (h : Fsh) (i : Nat) (x : Nd × Value) (c : Chg) (w : World) (H : Fs h w) (hk : c.kind = 3) (hi : c.at_ = (i : Int)) (hx : h.X[i]? = some x) (hX : h.X.length ≤ 1000000) (hxl : 0 ≤ x.1.links ∧ x.1.links ≤ 1000000) (hxe : x.1.ents.length ≤ 1000000) :
    Calls Tryz.prog 80 #[.pointer (some ⟨h.p, 0, none⟩), chgV c] w fun e w' => e = .returned (.int .i64 (h.X.length : Int)) ∧
      ∃ h', h'.p = h.p ∧ h'.M = builtM h.M i c.name (linkNd c.text) x.1.dev ∧ Fs h' w' ∧ Grew h h' w w' := by
  have HBa := Lib.hid (show Below w.heap.size w (w.alloc (chgBox c)).drew from ((Below.refl _ _).alloc (Nat.le_refl _) _).drew)
  have HK := Lib.hid (show ∀ W, Below w.heap.size w W → Fs h W from fun W hb => H.keep hb)
  have HNF := Lib.hid (show ¬ h.foot w.heap.size from fun e => by have := H.lt e; omega)
  have HX0 := Lib.hid (show (w.alloc (chgBox c)).drew.heap[w.heap.size]? = some (chgBox c) from heap_alloc_new _ _)
  have HX := Lib.hid hx
  have t0 : (c.kind == 0) = false := kind_no 0 (by omega)
  have t1 : (c.kind == 1) = false := kind_no 1 (by omega)
  have t2 : (c.kind == 2) = false := kind_no 2 (by omega)
  have t3 : (c.kind == 3) = true := kind_yes 3 (by omega)
  have t7 : (c.kind == 7) = false := kind_no 7 (by omega)
  have HI := Lib.hid hi
  have HL := Lib.hid hxl
  have HE := Lib.hid hxe
  clear hk hi hx hxl hxe H
  unfold chgV
  go_enter Tryz.func80, Tryz.ntmps80
  go_wp2
  go_region_held3 (fun w' => w'.cell? ⟨w.heap.size, 0, none⟩ = some (.int .i64 c.kind) ∧ w'.cell? ⟨w.heap.size, 1, none⟩ = some (.int .i64 c.at_) ∧ w'.cell? ⟨w.heap.size, 2, none⟩ = some (.int .i64 c.to) ∧ w'.cell? ⟨w.heap.size, 3, none⟩ = some (.string c.name) ∧ w'.cell? ⟨w.heap.size, 4, none⟩ = some (.string c.text) ∧ w'.cell? ⟨w.heap.size, 5, none⟩ = some (.int .i64 c.a) ∧ w'.cell? ⟨w.heap.size, 6, none⟩ = some (.int .i64 c.b) ∧ w'.cell? ⟨w.heap.size, 7, none⟩ = some (.int .i64 c.n)) (first | exact hk3 | exact hk2 | exact chg_cells HX0.out) (first
    | (go_at_call 130; refine (link_any c.text _).mono ?_; rintro e w2 ⟨rfl, hb2⟩; have HB2 := Lib.hid (below_two HBa.out hb2); have HX2 := Lib.hid (box_keep2 HX0.out hb2); have hk2 := chg_cells HX2.out; clear hb2)
    | (go_at_call 127; refine (build_any h i x c (linkNd c.text) _ (HK.out _ HB2.out) HI.out HX.out rfl ⟨by show (0 : Int) ≤ 0; decide, by show (0 : Int) ≤ 1000000; decide⟩ hX HL.out HE.out).mono ?_; rintro e w3 ⟨rfl, h', hp', hm', H3, G3⟩; have hk3 := chg_cells (box_grew HX2.out G3 HNF.out); have R := Lib.hid (show ∃ h', h'.p = h.p ∧ h'.M = builtM h.M i c.name (linkNd c.text) x.1.dev ∧ Fs h' w3 ∧ Grew h h' w w3 from ⟨h', hp', hm', H3, (Grew.of_below HB2.out).trans G3⟩); clear hp' hm' H3 G3))
  all_goals go_wp2
  all_goals go_ret
  all_goals exact ⟨rfl, R.out⟩

set_option maxRecDepth 100000 in
set_option maxHeartbeats 4000000 in
theorem carry_2 (h : Fsh) (i j : Nat) (x y : Nd × Value) (c : Chg) (w : World) (H : Fs h w) (hk : c.kind = 2) (hi : c.at_ = (i : Int)) (hx : h.X[i]? = some x) (hj : c.to = (j : Int)) (hy : h.X[j]? = some y) (t : Nat) (ht : (if y.1.kind = 2 then i else j) = t) (hyl : 0 ≤ y.1.links ∧ y.1.links ≤ 1000000) (hxl : 0 ≤ x.1.links ∧ x.1.links ≤ 1000000) (hxe : x.1.ents.length ≤ 1000000) :
    Calls Tryz.prog 80 #[.pointer (some ⟨h.p, 0, none⟩), chgV c] w fun e w' => e = .returned (.int .i64 0) ∧
      ∃ h', h'.p = h.p ∧ h'.M = (h.M.modify i (addEnt c.name j)).modify t moreLinks ∧ Fs h' w' ∧ Grew h h' w w' := by
  have HBa := Lib.hid (show ∀ o, Below w.heap.size w (w.alloc o) from fun o => (Below.refl _ _).alloc (Nat.le_refl _) _)
  have HK := Lib.hid (show ∀ W, Below w.heap.size w W → Fs h W from fun W hb => H.keep hb)
  have t0 : (c.kind == 0) = false := kind_no 0 (by omega)
  have t1 : (c.kind == 1) = false := kind_no 1 (by omega)
  have t2 : (c.kind == 2) = true := kind_yes 2 (by omega)
  have t3 : (c.kind == 3) = false := kind_no 3 (by omega)
  have t7 : (c.kind == 7) = false := kind_no 7 (by omega)
  have HX := Lib.hid hx
  have HT := Lib.hid ht
  have HY := Lib.hid hy
  have HL := Lib.hid hxl
  have HYL := Lib.hid hyl
  have HE := Lib.hid hxe
  unfold chgV
  rw [hi, hj]
  clear ht hk hi hj hx hy hxl hyl hxe H
  go_enter Tryz.func80, Tryz.ntmps80
  go_wp2_with (go_at_call 129; refine (enter_any h i j x y c.name _ (HK.out _ (HBa.out _)) HX.out HY.out HL.out HYL.out HE.out).mono ?_; rintro e w3 ⟨rfl, h', hp', hm', H3, G3⟩; rw [HT.out] at hm'; have R := Lib.hid (show ∃ h', h'.p = h.p ∧ h'.M = (h.M.modify i (addEnt c.name j)).modify t moreLinks ∧ Fs h' w3 ∧ Grew h h' w w3 from ⟨h', hp', hm', H3, (Grew.of_below (HBa.out _)).trans G3⟩); clear hp' hm' H3 G3)
  go_ret
  exact ⟨rfl, R.out⟩

set_option maxRecDepth 100000 in
set_option maxHeartbeats 4000000 in
theorem carry_7 (h : Fsh) (i : Nat) (x : Nd × Value) (c : Chg) (w : World) (H : Fs h w) (hk : c.kind = 7) (hi : c.to = (i : Int)) (hx : h.X[i]? = some x) (hX : h.X.length ≤ 1000000) :
    Calls Tryz.prog 80 #[.pointer (some ⟨h.p, 0, none⟩), chgV c] w fun e w' => e = .returned (.int .i64 (h.X.length : Int)) ∧
      ∃ h', h'.p = h.p ∧ h'.M = coveredM h.M i c.a x.1.up ∧ Fs h' w' ∧ Grew h h' w w' := by
  have HBa := Lib.hid (show ∀ o, Below w.heap.size w (w.alloc o) from fun o => (Below.refl _ _).alloc (Nat.le_refl _) _)
  have HK := Lib.hid (show ∀ W, Below w.heap.size w W → Fs h W from fun W hb => H.keep hb)
  have t0 : (c.kind == 0) = false := kind_no 0 (by omega)
  have t1 : (c.kind == 1) = false := kind_no 1 (by omega)
  have t2 : (c.kind == 2) = false := kind_no 2 (by omega)
  have t3 : (c.kind == 3) = false := kind_no 3 (by omega)
  have t7 : (c.kind == 7) = true := kind_yes 7 (by omega)
  have HX := Lib.hid hx
  unfold chgV
  rw [hi]
  clear hk hi hx H
  go_enter Tryz.func80, Tryz.ntmps80
  go_wp2_with (go_at_call 131; refine (cover_any h i x c.a _ (HK.out _ (HBa.out _)) HX.out hX).mono ?_; rintro e w3 ⟨rfl, h', hp', hm', H3, G3⟩; have R := Lib.hid (show ∃ h', h'.p = h.p ∧ h'.M = coveredM h.M i c.a x.1.up ∧ Fs h' w3 ∧ Grew h h' w w3 from ⟨h', hp', hm', H3, (Grew.of_below (HBa.out _)).trans G3⟩); clear hp' hm' H3 G3)
  go_ret
  exact ⟨rfl, R.out⟩

set_option maxRecDepth 100000 in
set_option maxHeartbeats 4000000 in
theorem carry_set (h : Fsh) (i : Nat) (x : Nd × Value) (c : Chg) (w : World) (H : Fs h w) (hk : c.kind = 4 ∨ c.kind = 5 ∨ (c.kind = 6 ∧ 0 ≤ c.a ∧ c.a ≤ 2) ∨ c.kind = 8) (hi : c.to = (i : Int)) (hx : h.X[i]? = some x) :
    Calls Tryz.prog 80 #[.pointer (some ⟨h.p, 0, none⟩), chgV c] w fun e w' => e = .returned (.int .i64 0) ∧
      ∃ h', h'.p = h.p ∧ h'.M = h.M.modify i (setNd c) ∧ Fs h' w' ∧ Grew h h' w w' := by
  have hil : i < h.X.length := (List.getElem?_eq_some_iff.1 hx).1
  obtain ⟨g, cap, hv, _, _⟩ := H.slice (by omega)
  have HC := Lib.hid hk
  have HV := Lib.hid hv
  have HBa := Lib.hid (show Below w.heap.size w (w.alloc (chgBox c)).drew from ((Below.refl _ _).alloc (Nat.le_refl _) _).drew)
  have HK := Lib.hid (show ∀ W, Below w.heap.size w W → Fs h W from fun W hb => H.keep hb)
  have HNF := Lib.hid (show ¬ h.foot w.heap.size from fun e => by have := H.lt e; omega)
  have HX0 := Lib.hid (show (w.alloc (chgBox c)).drew.heap[w.heap.size]? = some (chgBox c) from heap_alloc_new _ _)
  have HX := Lib.hid hx
  have HS := Lib.hid (show ∀ W, W.heap[w.heap.size]? = some (chgBox c) → Fs ⟨h.p, h.v, []⟩ W ∨ Fs h W ∨ True → True from fun _ _ _ => trivial)
  have HCI := Lib.hid hi
  have HCB := Lib.hid (show ∀ W : World, W.heap[w.heap.size]? = some (chgBox c) → W.cell? ⟨h.p, 0, none⟩ = some h.v → W.cell? ⟨w.heap.size, 0, none⟩ = some (.int .i64 c.kind) ∧ W.cell? ⟨w.heap.size, 1, none⟩ = some (.int .i64 c.at_) ∧ W.cell? ⟨w.heap.size, 2, none⟩ = some (.int .i64 (i : Int)) ∧ W.cell? ⟨w.heap.size, 3, none⟩ = some (.string c.name) ∧ W.cell? ⟨w.heap.size, 4, none⟩ = some (.string c.text) ∧ W.cell? ⟨w.heap.size, 5, none⟩ = some (.int .i64 c.a) ∧ W.cell? ⟨w.heap.size, 6, none⟩ = some (.int .i64 c.b) ∧ W.cell? ⟨w.heap.size, 7, none⟩ = some (.int .i64 c.n) ∧ W.cell? ⟨h.p, 0, none⟩ = some (.slice (some ⟨g, 0, none⟩) h.X.length cap) from fun W hW hp => by
    have q := chg_cells hW
    rw [hi] at q
    rw [hv] at hp
    exact ⟨q.1, q.2.1, q.2.2.1, q.2.2.2.1, q.2.2.2.2.1, q.2.2.2.2.2.1, q.2.2.2.2.2.2.1, q.2.2.2.2.2.2.2, hp⟩)
  have HP0 := Lib.hid (H.keep HBa.out).cell0
  have t0 : (c.kind == 0) = false := kind_no 0 (by omega)
  have t1 : (c.kind == 1) = false := kind_no 1 (by omega)
  have t2 : (c.kind == 2) = false := kind_no 2 (by omega)
  have t3 : (c.kind == 3) = false := kind_no 3 (by omega)
  have t7 : (c.kind == 7) = false := kind_no 7 (by omega)
  have HCV := Lib.hid (show chgV c = .agg #[.int .i64 c.kind, .int .i64 c.at_, .int .i64 (i : Int), .string c.name, .string c.text, .int .i64 c.a, .int .i64 c.b, .int .i64 c.n] from by unfold chgV; rw [hi])
  have HXI := Lib.hid (show (w.alloc (.cells #[.int .i64 c.kind, .int .i64 c.at_, .int .i64 (i : Int), .string c.name, .string c.text, .int .i64 c.a, .int .i64 c.b, .int .i64 c.n] 89)).drew = (w.alloc (chgBox c)).drew from by unfold chgBox; rw [hi])
  rw [HCV.out]
  clear hk hi hx hv H HS
  go_enter Tryz.func80, Tryz.ntmps80
  go_wp2
  go_region_held3 (fun w' => w'.cell? ⟨w.heap.size, 0, none⟩ = some (.int .i64 c.kind) ∧ w'.cell? ⟨w.heap.size, 1, none⟩ = some (.int .i64 c.at_) ∧ w'.cell? ⟨w.heap.size, 2, none⟩ = some (.int .i64 (i : Int)) ∧ w'.cell? ⟨w.heap.size, 3, none⟩ = some (.string c.name) ∧ w'.cell? ⟨w.heap.size, 4, none⟩ = some (.string c.text) ∧ w'.cell? ⟨w.heap.size, 5, none⟩ = some (.int .i64 c.a) ∧ w'.cell? ⟨w.heap.size, 6, none⟩ = some (.int .i64 c.b) ∧ w'.cell? ⟨w.heap.size, 7, none⟩ = some (.int .i64 c.n) ∧ w'.cell? ⟨h.p, 0, none⟩ = some (.slice (some ⟨g, 0, none⟩) h.X.length cap)) (first | exact hk3 | (rw [HXI.out]; exact HCB.out _ HX0.out HP0.out)) (first
    | (go_at_call 132; rw [HXI.out, ← HCV.out]; refine (set_any h g cap i x.1 x.2 c _ (HK.out _ HBa.out) HV.out HX.out HC.out).mono ?_; rintro e w3 ⟨rfl, H3, G3⟩; have hk3 := HCB.out _ (box_grew HX0.out G3 HNF.out) H3.cell0; have R := Lib.hid (show ∃ h', h'.p = h.p ∧ h'.M = h.M.modify i (setNd c) ∧ Fs h' w3 ∧ Grew h h' w w3 from ⟨Fsh.mk h.p h.v (h.X.set i (setNd c x.1, x.2)), rfl, map_set (setNd c) HX.out, H3, (Grew.of_below HBa.out).trans G3⟩); clear H3 G3))
  all_goals go_wp2
  all_goals go_ret
  all_goals exact ⟨rfl, R.out⟩
end Go.Proofs.YtknfhphhcnbndaaGreatDoor.V
