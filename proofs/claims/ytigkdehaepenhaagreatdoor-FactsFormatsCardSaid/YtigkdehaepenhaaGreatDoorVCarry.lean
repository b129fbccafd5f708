/-
  What FS.carryOut makes of a file system. Conditions: nothing is wrong with the change; at most 1000000 nodes, entries and links.
-/
import Derived.Test.YtigkdehaepenhaaGreatDoorVRefuse
import Derived.Test.YtigkdehaepenhaaGreatDoorVBuild
import Derived.Test.YtigkdehaepenhaaGreatDoorVCover
import Derived.Test.YtigkdehaepenhaaGreatDoorVSet
import Derived.Deep.RegionHeld3
set_option linter.unusedVariables false
namespace Go.Proofs.YtigkdehaepenhaaGreatDoor.V
open Go.RowKit

/-- What is behind a call that made something of the file system: the change's box is as it was. -/
theorem box_grew {h h' : Fsh} {w2 w3 : World} {k : Nat} {o : Obj} (hb : w2.heap[k]? = some o) (G : Grew h h' w2 w3) (hf : ¬ h.foot k) : w3.heap[k]? = some o := (G.kept k (heap_lt hb) hf).trans hb

set_option maxRecDepth 100000 in
set_option maxHeartbeats 4000000 in
theorem carry_0 (h : Fsh) (i : Nat) (x : Nd × Value) (c : Chg) (w : World) (H : Fs h w) (hk : c.kind = 0) (hi : c.at_ = (i : Int)) (hx : h.X[i]? = some x) (hX : h.X.length ≤ 1000000) (hxl : 0 ≤ x.1.links ∧ x.1.links ≤ 1000000) (hxe : x.1.ents.length ≤ 1000000) :
    Calls Tryz.prog 40 #[.pointer (some ⟨h.p, 0, none⟩), chgV c] w fun e w' => e = .returned (.int .i64 (h.X.length : Int)) ∧
      ∃ h', h'.p = h.p ∧ h'.M = builtM h.M i c.name (dirNd (c.a % 4096) c.at_) x.1.dev ∧ Fs h' w' ∧ Grew h h' w w' := by
  have HBa := Lib.hid (show Below w.heap.size w (w.alloc (chgBox c)).drew from ((Below.refl _ _).alloc (Nat.le_refl _) _).drew)
  have HK := Lib.hid (show ∀ W, Below w.heap.size w W → Fs h W from fun W hb => H.keep hb)
  have HNF := Lib.hid (show ¬ h.foot w.heap.size from fun e => by have := H.lt e; omega)
  have HX0 := Lib.hid (show (w.alloc (chgBox c)).drew.heap[w.heap.size]? = some (chgBox c) from heap_alloc_new _ _)
  have HX := Lib.hid hx
  have t0 : (c.kind == 0) = true := kind_yes 0 (by omega)
  have t1 : (c.kind == 1) = false := kind_no 1 (by omega)
  have t2 : (c.kind == 2) = false := kind_no 2 (by omega)
  have t3 : (c.kind == 3) = false := kind_no 3 (by omega)
  have t7 : (c.kind == 7) = false := kind_no 7 (by omega)
  have HI := Lib.hid hi
  have HL := Lib.hid hxl
  have HE := Lib.hid hxe
  clear hk hi hx hxl hxe H
  unfold chgV
  go_enter Tryz.func40, Tryz.ntmps40
  go_wp2
  go_region_held3 (fun w' => w'.cell? ⟨w.heap.size, 0, none⟩ = some (.int .i64 c.kind) ∧ w'.cell? ⟨w.heap.size, 1, none⟩ = some (.int .i64 c.at_) ∧ w'.cell? ⟨w.heap.size, 2, none⟩ = some (.int .i64 c.to) ∧ w'.cell? ⟨w.heap.size, 3, none⟩ = some (.string c.name) ∧ w'.cell? ⟨w.heap.size, 4, none⟩ = some (.string c.text) ∧ w'.cell? ⟨w.heap.size, 5, none⟩ = some (.int .i64 c.a) ∧ w'.cell? ⟨w.heap.size, 6, none⟩ = some (.int .i64 c.b) ∧ w'.cell? ⟨w.heap.size, 7, none⟩ = some (.int .i64 c.n)) (first | exact hk3 | exact hk2 | exact chg_cells HX0.out) (first
    | (go_at_call 37; refine (directory_any c.a c.at_ _).mono ?_; rintro e w2 ⟨rfl, hb2⟩; have HB2 := Lib.hid (below_two HBa.out hb2); have HX2 := Lib.hid (box_keep2 HX0.out hb2); have hk2 := chg_cells HX2.out; clear hb2)
    | (go_at_call 71; refine (build_any h i x c (dirNd (c.a % 4096) c.at_) _ (HK.out _ HB2.out) HI.out HX.out rfl ⟨by show (0 : Int) ≤ 2; decide, by show (2 : Int) ≤ 1000000; decide⟩ hX HL.out HE.out).mono ?_; rintro e w3 ⟨rfl, h', hp', hm', H3, G3⟩; have hk3 := chg_cells (box_grew HX2.out G3 HNF.out); have R := Lib.hid (show ∃ h', h'.p = h.p ∧ h'.M = builtM h.M i c.name (dirNd (c.a % 4096) c.at_) x.1.dev ∧ Fs h' w3 ∧ Grew h h' w w3 from ⟨h', hp', hm', H3, (Grew.of_below HB2.out).trans G3⟩); clear hp' hm' H3 G3))
  all_goals go_wp2
  all_goals go_ret
  all_goals exact ⟨rfl, R.out⟩

set_option maxRecDepth 100000 in
set_option maxHeartbeats 4000000 in
theorem carry_1 (h : Fsh) (i : Nat) (x : Nd × Value) (c : Chg) (w : World) (H : Fs h w) (hk : c.kind = 1) (hi : c.at_ = (i : Int)) (hx : h.X[i]? = some x) (hX : h.X.length ≤ 1000000) (hxl : 0 ≤ x.1.links ∧ x.1.links ≤ 1000000) (hxe : x.1.ents.length ≤ 1000000) (hn0 : 0 ≤ c.n) (hn1 : c.n ≤ 9223372036854775807) :
    Calls Tryz.prog 40 #[.pointer (some ⟨h.p, 0, none⟩), chgV c] w fun e w' => e = .returned (.int .i64 (h.X.length : Int)) ∧
      ∃ h', h'.p = h.p ∧ h'.M = builtM h.M i c.name (fileNd (c.a % 4096) c.n (blkOf c.n)) x.1.dev ∧ Fs h' w' ∧ Grew h h' w w' := by
  have HBa := Lib.hid (show Below w.heap.size w (w.alloc (chgBox c)).drew from ((Below.refl _ _).alloc (Nat.le_refl _) _).drew)
  have HK := Lib.hid (show ∀ W, Below w.heap.size w W → Fs h W from fun W hb => H.keep hb)
  have HNF := Lib.hid (show ¬ h.foot w.heap.size from fun e => by have := H.lt e; omega)
  have HX0 := Lib.hid (show (w.alloc (chgBox c)).drew.heap[w.heap.size]? = some (chgBox c) from heap_alloc_new _ _)
  have HX := Lib.hid hx
  have t0 : (c.kind == 0) = false := kind_no 0 (by omega)
  have t1 : (c.kind == 1) = true := kind_yes 1 (by omega)
  have t2 : (c.kind == 2) = false := kind_no 2 (by omega)
  have t3 : (c.kind == 3) = false := kind_no 3 (by omega)
  have t7 : (c.kind == 7) = false := kind_no 7 (by omega)
  have HI := Lib.hid hi
  have HL := Lib.hid hxl
  have HE := Lib.hid hxe
  have HN0 := Lib.hid hn0
  have HN1 := Lib.hid hn1
  clear hn0 hn1
  clear hk hi hx hxl hxe H
  unfold chgV
  go_enter Tryz.func40, Tryz.ntmps40
  go_wp2
  go_region_held3 (fun w' => w'.cell? ⟨w.heap.size, 0, none⟩ = some (.int .i64 c.kind) ∧ w'.cell? ⟨w.heap.size, 1, none⟩ = some (.int .i64 c.at_) ∧ w'.cell? ⟨w.heap.size, 2, none⟩ = some (.int .i64 c.to) ∧ w'.cell? ⟨w.heap.size, 3, none⟩ = some (.string c.name) ∧ w'.cell? ⟨w.heap.size, 4, none⟩ = some (.string c.text) ∧ w'.cell? ⟨w.heap.size, 5, none⟩ = some (.int .i64 c.a) ∧ w'.cell? ⟨w.heap.size, 6, none⟩ = some (.int .i64 c.b) ∧ w'.cell? ⟨w.heap.size, 7, none⟩ = some (.int .i64 c.n)) (first | exact hk3 | exact hk2 | exact chg_cells HX0.out) (first
    | (go_at_call 72; refine (file_any c.a c.n _ HN0.out HN1.out).mono ?_; rintro e w2 ⟨rfl, hb2⟩; have HB2 := Lib.hid (below_two HBa.out hb2); have HX2 := Lib.hid (box_keep2 HX0.out hb2); have hk2 := chg_cells HX2.out; clear hb2)
    | (go_at_call 71; refine (build_any h i x c (fileNd (c.a % 4096) c.n (blkOf c.n)) _ (HK.out _ HB2.out) HI.out HX.out rfl ⟨by show (0 : Int) ≤ 0; decide, by show (0 : Int) ≤ 1000000; decide⟩ hX HL.out HE.out).mono ?_; rintro e w3 ⟨rfl, h', hp', hm', H3, G3⟩; have hk3 := chg_cells (box_grew HX2.out G3 HNF.out); have R := Lib.hid (show ∃ h', h'.p = h.p ∧ h'.M = builtM h.M i c.name (fileNd (c.a % 4096) c.n (blkOf c.n)) x.1.dev ∧ Fs h' w3 ∧ Grew h h' w w3 from ⟨h', hp', hm', H3, (Grew.of_below HB2.out).trans G3⟩); clear hp' hm' H3 G3))
  all_goals go_wp2
  all_goals go_ret
  all_goals exact ⟨rfl, R.out⟩

set_option maxRecDepth 100000 in
set_option maxHeartbeats 4000000 in
theorem carry_3 (h : Fsh) (i : Nat) (x : Nd × Value) (c : Chg) (w : World) (H : Fs h w) (hk : c.kind = 3) (hi : c.at_ = (i : Int)) (hx : h.X[i]? = some x) (hX : h.X.length ≤ 1000000) (hxl : 0 ≤ x.1.links ∧ x.1.links ≤ 1000000) (hxe : x.1.ents.length ≤ 1000000) :
    Calls Tryz.prog 40 #[.pointer (some ⟨h.p, 0, none⟩), chgV c] w fun e w' => e = .returned (.int .i64 (h.X.length : Int)) ∧
      ∃ h', h'.p = h.p ∧ h'.M = builtM h.M i c.name (linkNd c.text) x.1.dev ∧ Fs h' w' ∧ Grew h h' w w' := by
  have HBa := Lib.hid (show Below w.heap.size w (w.alloc (chgBox c)).drew from ((Below.refl _ _).alloc (Nat.le_refl _) _).drew)
  have HK := Lib.hid (show ∀ W, Below w.heap.size w W → Fs h W from fun W hb => H.keep hb)
  have HNF := Lib.hid (show ¬ h.foot w.heap.size from fun e => by have := H.lt e; omega)
  have HX0 := Lib.hid (show (w.alloc (chgBox c)).drew.heap[w.heap.size]? = some (chgBox c) from heap_alloc_new _ _)
  have HX := Lib.hid hx
  have t0 : (c.kind == 0) = false := kind_no 0 (by omega)
  have t1 : (c.kind == 1) = false := kind_no 1 (by omega)
  have t2 : (c.kind == 2) = false := kind_no 2 (by omega)
  have t3 : (c.kind == 3) = true := kind_yes 3 (by omega)
  have t7 : (c.kind == 7) = false := kind_no 7 (by omega)
  have HI := Lib.hid hi
  have HL := Lib.hid hxl
  have HE := Lib.hid hxe
  clear hk hi hx hxl hxe H
  unfold chgV
  go_enter Tryz.func40, Tryz.ntmps40
  go_wp2
  go_region_held3 (fun w' => w'.cell? ⟨w.heap.size, 0, none⟩ = some (.int .i64 c.kind) ∧ w'.cell? ⟨w.heap.size, 1, none⟩ = some (.int .i64 c.at_) ∧ w'.cell? ⟨w.heap.size, 2, none⟩ = some (.int .i64 c.to) ∧ w'.cell? ⟨w.heap.size, 3, none⟩ = some (.string c.name) ∧ w'.cell? ⟨w.heap.size, 4, none⟩ = some (.string c.text) ∧ w'.cell? ⟨w.heap.size, 5, none⟩ = some (.int .i64 c.a) ∧ w'.cell? ⟨w.heap.size, 6, none⟩ = some (.int .i64 c.b) ∧ w'.cell? ⟨w.heap.size, 7, none⟩ = some (.int .i64 c.n)) (first | exact hk3 | exact hk2 | exact chg_cells HX0.out) (first
    | (go_at_call 74; refine (link_any c.text _).mono ?_; rintro e w2 ⟨rfl, hb2⟩; have HB2 := Lib.hid (below_two HBa.out hb2); have HX2 := Lib.hid (box_keep2 HX0.out hb2); have hk2 := chg_cells HX2.out; clear hb2)
    | (go_at_call 71; refine (build_any h i x c (linkNd c.text) _ (HK.out _ HB2.out) HI.out HX.out rfl ⟨by show (0 : Int) ≤ 0; decide, by show (0 : Int) ≤ 1000000; decide⟩ hX HL.out HE.out).mono ?_; rintro e w3 ⟨rfl, h', hp', hm', H3, G3⟩; have hk3 := chg_cells (box_grew HX2.out G3 HNF.out); have R := Lib.hid (show ∃ h', h'.p = h.p ∧ h'.M = builtM h.M i c.name (linkNd c.text) x.1.dev ∧ Fs h' w3 ∧ Grew h h' w w3 from ⟨h', hp', hm', H3, (Grew.of_below HB2.out).trans G3⟩); clear hp' hm' H3 G3))
  all_goals go_wp2
  all_goals go_ret
  all_goals exact ⟨rfl, R.out⟩

set_option maxRecDepth 100000 in
set_option maxHeartbeats 4000000 in
theorem carry_2 (h : Fsh) (i j : Nat) (x y : Nd × Value) (c : Chg) (w : World) (H : Fs h w) (hk : c.kind = 2) (hi : c.at_ = (i : Int)) (hx : h.X[i]? = some x) (hj : c.to = (j : Int)) (hy : h.X[j]? = some y) (t : Nat) (ht : (if y.1.kind = 2 then i else j) = t) (hyl : 0 ≤ y.1.links ∧ y.1.links ≤ 1000000) (hxl : 0 ≤ x.1.links ∧ x.1.links ≤ 1000000) (hxe : x.1.ents.length ≤ 1000000) :
    Calls Tryz.prog 40 #[.pointer (some ⟨h.p, 0, none⟩), chgV c] w fun e w' => e = .returned (.int .i64 0) ∧
      ∃ h', h'.p = h.p ∧ h'.M = (h.M.modify i (addEnt c.name j)).modify t moreLinks ∧ Fs h' w' ∧ Grew h h' w w' := by
  have HBa := Lib.hid (show ∀ o, Below w.heap.size w (w.alloc o) from fun o => (Below.refl _ _).alloc (Nat.le_refl _) _)
  have HK := Lib.hid (show ∀ W, Below w.heap.size w W → Fs h W from fun W hb => H.keep hb)
  have t0 : (c.kind == 0) = false := kind_no 0 (by omega)
  have t1 : (c.kind == 1) = false := kind_no 1 (by omega)
  have t2 : (c.kind == 2) = true := kind_yes 2 (by omega)
  have t3 : (c.kind == 3) = false := kind_no 3 (by omega)
  have t7 : (c.kind == 7) = false := kind_no 7 (by omega)
  have HX := Lib.hid hx
  have HT := Lib.hid ht
  have HY := Lib.hid hy
  have HL := Lib.hid hxl
  have HYL := Lib.hid hyl
  have HE := Lib.hid hxe
  unfold chgV
  rw [hi, hj]
  clear ht hk hi hj hx hy hxl hyl hxe H
  go_enter Tryz.func40, Tryz.ntmps40
  go_wp2_with (go_at_call 73; refine (enter_any h i j x y c.name _ (HK.out _ (HBa.out _)) HX.out HY.out HL.out HYL.out HE.out).mono ?_; rintro e w3 ⟨rfl, h', hp', hm', H3, G3⟩; rw [HT.out] at hm'; have R := Lib.hid (show ∃ h', h'.p = h.p ∧ h'.M = (h.M.modify i (addEnt c.name j)).modify t moreLinks ∧ Fs h' w3 ∧ Grew h h' w w3 from ⟨h', hp', hm', H3, (Grew.of_below (HBa.out _)).trans G3⟩); clear hp' hm' H3 G3)
  go_ret
  exact ⟨rfl, R.out⟩

set_option maxRecDepth 100000 in
set_option maxHeartbeats 4000000 in
theorem carry_7 (h : Fsh) (i : Nat) (x : Nd × Value) (c : Chg) (w : World) (H : Fs h w) (hk : c.kind = 7) (hi : c.to = (i : Int)) (hx : h.X[i]? = some x) (hX : h.X.length ≤ 1000000) :
    Calls Tryz.prog 40 #[.pointer (some ⟨h.p, 0, none⟩), chgV c] w fun e w' => e = .returned (.int .i64 (h.X.length : Int)) ∧
      ∃ h', h'.p = h.p ∧ h'.M = coveredM h.M i c.a x.1.up ∧ Fs h' w' ∧ Grew h h' w w' := by
  have HBa := Lib.hid (show ∀ o, Below w.heap.size w (w.alloc o) from fun o => (Below.refl _ _).alloc (Nat.le_refl _) _)
  have HK := Lib.hid (show ∀ W, Below w.heap.size w W → Fs h W from fun W hb => H.keep hb)
  have t0 : (c.kind == 0) = false := kind_no 0 (by omega)
  have t1 : (c.kind == 1) = false := kind_no 1 (by omega)
  have t2 : (c.kind == 2) = false := kind_no 2 (by omega)
  have t3 : (c.kind == 3) = false := kind_no 3 (by omega)
  have t7 : (c.kind == 7) = true := kind_yes 7 (by omega)
  have HX := Lib.hid hx
  unfold chgV
  rw [hi]
  clear hk hi hx H
  go_enter Tryz.func40, Tryz.ntmps40
  go_wp2_with (go_at_call 75; refine (cover_any h i x c.a _ (HK.out _ (HBa.out _)) HX.out hX).mono ?_; rintro e w3 ⟨rfl, h', hp', hm', H3, G3⟩; have R := Lib.hid (show ∃ h', h'.p = h.p ∧ h'.M = coveredM h.M i c.a x.1.up ∧ Fs h' w3 ∧ Grew h h' w w3 from ⟨h', hp', hm', H3, (Grew.of_below (HBa.out _)).trans G3⟩); clear hp' hm' H3 G3)
  go_ret
  exact ⟨rfl, R.out⟩

set_option maxRecDepth 100000 in
set_option maxHeartbeats 4000000 in
theorem carry_set (h : Fsh) (i : Nat) (x : Nd × Value) (c : Chg) (w : World) (H : Fs h w) (hk : c.kind = 4 ∨ c.kind = 5 ∨ (c.kind = 6 ∧ 0 ≤ c.a ∧ c.a ≤ 2) ∨ c.kind = 8) (hi : c.to = (i : Int)) (hx : h.X[i]? = some x) :
    Calls Tryz.prog 40 #[.pointer (some ⟨h.p, 0, none⟩), chgV c] w fun e w' => e = .returned (.int .i64 0) ∧
      ∃ h', h'.p = h.p ∧ h'.M = h.M.modify i (setNd c) ∧ Fs h' w' ∧ Grew h h' w w' := by
  have hil : i < h.X.length := (List.getElem?_eq_some_iff.1 hx).1
  obtain ⟨g, cap, hv, _, _⟩ := H.slice (by omega)
  have HC := Lib.hid hk
  have HV := Lib.hid hv
  have HBa := Lib.hid (show Below w.heap.size w (w.alloc (chgBox c)).drew from ((Below.refl _ _).alloc (Nat.le_refl _) _).drew)
  have HK := Lib.hid (show ∀ W, Below w.heap.size w W → Fs h W from fun W hb => H.keep hb)
  have HNF := Lib.hid (show ¬ h.foot w.heap.size from fun e => by have := H.lt e; omega)
  have HX0 := Lib.hid (show (w.alloc (chgBox c)).drew.heap[w.heap.size]? = some (chgBox c) from heap_alloc_new _ _)
  have HX := Lib.hid hx
  have HS := Lib.hid (show ∀ W, W.heap[w.heap.size]? = some (chgBox c) → Fs ⟨h.p, h.v, []⟩ W ∨ Fs h W ∨ True → True from fun _ _ _ => trivial)
  have HCI := Lib.hid hi
  have HCB := Lib.hid (show ∀ W : World, W.heap[w.heap.size]? = some (chgBox c) → W.cell? ⟨h.p, 0, none⟩ = some h.v → W.cell? ⟨w.heap.size, 0, none⟩ = some (.int .i64 c.kind) ∧ W.cell? ⟨w.heap.size, 1, none⟩ = some (.int .i64 c.at_) ∧ W.cell? ⟨w.heap.size, 2, none⟩ = some (.int .i64 (i : Int)) ∧ W.cell? ⟨w.heap.size, 3, none⟩ = some (.string c.name) ∧ W.cell? ⟨w.heap.size, 4, none⟩ = some (.string c.text) ∧ W.cell? ⟨w.heap.size, 5, none⟩ = some (.int .i64 c.a) ∧ W.cell? ⟨w.heap.size, 6, none⟩ = some (.int .i64 c.b) ∧ W.cell? ⟨w.heap.size, 7, none⟩ = some (.int .i64 c.n) ∧ W.cell? ⟨h.p, 0, none⟩ = some (.slice (some ⟨g, 0, none⟩) h.X.length cap) from fun W hW hp => by
    have q := chg_cells hW
    rw [hi] at q
    rw [hv] at hp
    exact ⟨q.1, q.2.1, q.2.2.1, q.2.2.2.1, q.2.2.2.2.1, q.2.2.2.2.2.1, q.2.2.2.2.2.2.1, q.2.2.2.2.2.2.2, hp⟩)
  have HP0 := Lib.hid (H.keep HBa.out).cell0
  have t0 : (c.kind == 0) = false := kind_no 0 (by omega)
  have t1 : (c.kind == 1) = false := kind_no 1 (by omega)
  have t2 : (c.kind == 2) = false := kind_no 2 (by omega)
  have t3 : (c.kind == 3) = false := kind_no 3 (by omega)
  have t7 : (c.kind == 7) = false := kind_no 7 (by omega)
  have HCV := Lib.hid (show chgV c = .agg #[.int .i64 c.kind, .int .i64 c.at_, .int .i64 (i : Int), .string c.name, .string c.text, .int .i64 c.a, .int .i64 c.b, .int .i64 c.n] from by unfold chgV; rw [hi])
  have HXI := Lib.hid (show (w.alloc (.cells #[.int .i64 c.kind, .int .i64 c.at_, .int .i64 (i : Int), .string c.name, .string c.text, .int .i64 c.a, .int .i64 c.b, .int .i64 c.n] 54)).drew = (w.alloc (chgBox c)).drew from by unfold chgBox; rw [hi])
  rw [HCV.out]
  clear hk hi hx hv H HS
  go_enter Tryz.func40, Tryz.ntmps40
  go_wp2
  go_region_held3 (fun w' => w'.cell? ⟨w.heap.size, 0, none⟩ = some (.int .i64 c.kind) ∧ w'.cell? ⟨w.heap.size, 1, none⟩ = some (.int .i64 c.at_) ∧ w'.cell? ⟨w.heap.size, 2, none⟩ = some (.int .i64 (i : Int)) ∧ w'.cell? ⟨w.heap.size, 3, none⟩ = some (.string c.name) ∧ w'.cell? ⟨w.heap.size, 4, none⟩ = some (.string c.text) ∧ w'.cell? ⟨w.heap.size, 5, none⟩ = some (.int .i64 c.a) ∧ w'.cell? ⟨w.heap.size, 6, none⟩ = some (.int .i64 c.b) ∧ w'.cell? ⟨w.heap.size, 7, none⟩ = some (.int .i64 c.n) ∧ w'.cell? ⟨h.p, 0, none⟩ = some (.slice (some ⟨g, 0, none⟩) h.X.length cap)) (first | exact hk3 | (rw [HXI.out]; exact HCB.out _ HX0.out HP0.out)) (first
    | (go_at_call 76; rw [HXI.out, ← HCV.out]; refine (set_any h g cap i x.1 x.2 c _ (HK.out _ HBa.out) HV.out HX.out HC.out).mono ?_; rintro e w3 ⟨rfl, H3, G3⟩; have hk3 := HCB.out _ (box_grew HX0.out G3 HNF.out) H3.cell0; have R := Lib.hid (show ∃ h', h'.p = h.p ∧ h'.M = h.M.modify i (setNd c) ∧ Fs h' w3 ∧ Grew h h' w w3 from ⟨Fsh.mk h.p h.v (h.X.set i (setNd c x.1, x.2)), rfl, map_set (setNd c) HX.out, H3, (Grew.of_below HBa.out).trans G3⟩); clear H3 G3))
  all_goals go_wp2
  all_goals go_ret
  all_goals exact ⟨rfl, R.out⟩
end Go.Proofs.YtigkdehaepenhaaGreatDoor.V
