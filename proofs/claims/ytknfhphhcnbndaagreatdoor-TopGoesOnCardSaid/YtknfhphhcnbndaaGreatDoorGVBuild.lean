/-
  What FS.build makes: a node, and its name in a directory. Conditions: at most 1000000 nodes, entries and links.
-/
import Derived.Test.YtknfhphhcnbndaaGreatDoorGVAdd
import Derived.Test.YtknfhphhcnbndaaGreatDoorGVEnter
import Derived.Test.YtknfhphhcnbndaaGreatDoorGVChg
import Derived.StillTailTactics
set_option linter.unusedVariables false
set_option linter.unusedSimpArgs false
namespace Go.Proofs.YtknfhphhcnbndaaGreatDoor.V
open Go.RowKit

def builtM (M : List Nd) (i : Nat) (s : ByteArray) (n : Nd) (d : Int) : List Nd :=
  ((M ++ [addedNd n d M]).modify i (addEnt s (M.length : Int))).modify (if n.kind = 2 then i else M.length) moreLinks

theorem app_left {α : Type} {X Y : List α} {i : Nat} {x : α} (h : X[i]? = some x) : (X ++ Y)[i]? = some x := by rw [List.getElem?_append_left (List.getElem?_eq_some_iff.1 h).1]; exact h
theorem app_last {α : Type} (X : List α) (x : α) : (X ++ [x])[X.length]? = some x := by rw [List.getElem?_append_right (Nat.le_refl _), Nat.sub_self]; rfl
theorem build_end {h h1 h' : Fsh} {i : Nat} {s : ByteArray} {n : Nd} {d : Int} {w w3 w4 : World} (G : Grew h ⟨h.p, h1.v, h.X ++ [(addedNd n d h.M, .slice none 0 0)]⟩ w w3) (hp : h'.p = h.p)
    (hm : h'.M = ((Fsh.mk h.p h1.v (h.X ++ [(addedNd n d h.M, .slice none 0 0)])).M.modify i (addEnt s (h.X.length : Nat))).modify (if (addedNd n d h.M).kind = 2 then i else h.X.length) moreLinks)
    (H : Fs h' w4) (G4 : Grew ⟨h.p, h1.v, h.X ++ [(addedNd n d h.M, .slice none 0 0)]⟩ h' w3 w4) : h'.p = h.p ∧ h'.M = builtM h.M i s n d ∧ Fs h' w4 ∧ Grew h h' w w4 := by
  refine ⟨hp, ?_, H, G.trans G4⟩
  rw [hm]
  unfold builtM Fsh.M
  rw [List.map_append, List.length_map]
  rfl

set_option maxRecDepth 100000 in
set_option maxHeartbeats 4000000 in
theorem build_any (h : Fsh) (i : Nat) (x : Nd × Value) (c : Chg) (n : Nd) (w : World) (H : Fs h w) (hi : c.at_ = (i : Int)) (hx : h.X[i]? = some x) (hn : n.ents = []) (hnl : 0 ≤ n.links ∧ n.links ≤ 1000000) (hX : h.X.length ≤ 1000000) (hxl : 0 ≤ x.1.links ∧ x.1.links ≤ 1000000) (hxe : x.1.ents.length ≤ 1000000) :
    Calls Tryz.prog 127 #[.pointer (some ⟨h.p, 0, none⟩), chgV c, aggOf n] w fun e w' => e = .returned (.int .i64 (h.X.length : Int)) ∧
      ∃ h', h'.p = h.p ∧ h'.M = builtM h.M i c.name n x.1.dev ∧ Fs h' w' ∧ Grew h h' w w' := by
  have hil : i < h.X.length := (List.getElem?_eq_some_iff.1 hx).1
  obtain ⟨g, cap, hv, _, _⟩ := H.slice (by omega)
  have hp : h.p < w.heap.size := H.lt (.inl rfl)
  have hgl : g < w.heap.size := H.lt (.inr (.inl (by rw [hv]; rfl)))
  obtain ⟨w2, hw2⟩ : ∃ w2, (w.alloc (.cells #[.int .i64 c.kind, .int .i64 (i : Int), .int .i64 c.to, .string c.name, .string c.text, .int .i64 c.a, .int .i64 c.b, .int .i64 c.n] 89)).alloc (.cells (n.cells (.slice none 0 0)).toArray 135) = w2 := ⟨_, rfl⟩
  have B2 : Below w.heap.size w w2 := by rw [← hw2]; exact ((Below.refl _ _).alloc (Nat.le_refl _) _).alloc (by simp) _
  have H2 := H.keep B2
  have hb0 : w2.heap[w.heap.size]? = some (.cells #[.int .i64 c.kind, .int .i64 (i : Int), .int .i64 c.to, .string c.name, .string c.text, .int .i64 c.a, .int .i64 c.b, .int .i64 c.n] 89) := by rw [← hw2]; exact heap_alloc2_old _ _ _
  have hb1 : w2.heap[w.heap.size + 1]? = some (.cells (n.cells (.slice none 0 0)).toArray 135) := by rw [← hw2]; exact heap_alloc2_new _ _ _
  have c0 := H2.cell0
  rw [hv] at c0
  have cd := H2.at_node hv hx (k := 0) (by omega) rfl
  have cd' : w2.cell? ⟨g, i * 17, none⟩ = some (.int .i64 x.1.dev) := cd
  have d1 : w2.cell? ⟨w.heap.size, 1, none⟩ = some (.int .i64 (i : Int)) := by rw [cell_of_row _ _ _ _ _ _ hb0]; rfl
  have d3 : w2.cell? ⟨w.heap.size, 3, none⟩ = some (.string c.name) := by rw [cell_of_row _ _ _ _ _ _ hb0]; rfl
  have bx : ∀ j u, (n.cells (.slice none 0 0))[j]? = some u → w2.cell? ⟨w.heap.size + 1, j, none⟩ = some u := fun j u hu => by rw [cell_of_row _ _ _ _ _ _ hb1]; simpa using hu
  have b0 := bx 0 _ rfl
  have b1 := bx 1 _ rfl
  have b2 := bx 2 _ rfl
  have b3 := bx 3 _ rfl
  have b4 := bx 4 _ rfl
  have b5 := bx 5 _ rfl
  have b6 := bx 6 _ rfl
  have b7 := bx 7 _ rfl
  have b8 := bx 8 _ rfl
  have b9 := bx 9 _ rfl
  have b10 := bx 10 _ rfl
  have b11 := bx 11 _ rfl
  have b12 := bx 12 _ rfl
  have b13 := bx 13 _ rfl
  have b14 := bx 14 _ rfl
  have b15 := bx 15 _ rfl
  have b16 := bx 16 _ rfl
  have HW := Lib.hid hw2
  have HB := Lib.hid B2
  have HH2 := Lib.hid H2
  have HD0 := Lib.hid hb0
  clear hw2 B2 H2 hb0 hb1 bx
  have HH := Lib.hid H
  have HX := Lib.hid hx
  obtain ⟨hl0, hl1⟩ := hxl
  obtain ⟨hn0, hn1⟩ := hnl
  have HL0 := Lib.hid hl0
  have HL1 := Lib.hid hl1
  have HN := Lib.hid hn
  have HE := Lib.hid hxe
  clear hx hv cd H hl0 hl1 hxe hn
  unfold chgV aggOf
  rw [hi]
  go_enter Tryz.func127, Tryz.ntmps127
  go_wp2
  rw [HW.out]
  go_still_tail 12, (by kernel_rfl)
  change wpList _ _ _ _ _ w2.drew
  have H2d : Fs h w2.drew := HH2.out.at fun k hk => rfl
  have HA := Lib.hid (add_any h n x.1.dev w2.drew H2d HN.out hX)
  clear H2d
  have hnf : ¬ h.foot w.heap.size := fun e => by have := HH.out.lt e; omega
  have hsl : w.heap.size < w2.drew.heap.size := heap_lt HD0.out
  clear b0 b1 b2 b3 b4 b5 b6 b7 b8 b9 b10 b11 b12 b13 b14 b15 b16 c0 cd' d1 d3
  go_wp2_with (first
    | (go_at_call 77; refine HA.out.mono ?_; rintro e w3 ⟨rfl, v', H3, G3⟩; have hb3 := (G3.kept w.heap.size hsl hnf).trans HD0.out; have e1 : w3.cell? ⟨w.heap.size, 1, none⟩ = some (.int .i64 (i : Int)) := (cell_of_row _ _ _ _ _ _ hb3).trans rfl; have e3 : w3.cell? ⟨w.heap.size, 3, none⟩ = some (.string c.name) := (cell_of_row _ _ _ _ _ _ hb3).trans rfl; have HH3 := Lib.hid H3; have HG3 := Lib.hid G3; clear H3 G3 hb3)
    | (go_at_call 129; refine (enter_any ⟨h.p, v', h.X ++ [(addedNd n x.1.dev h.M, .slice none 0 0)]⟩ i h.X.length x (addedNd n x.1.dev h.M, .slice none 0 0) c.name w3 HH3.out (app_left HX.out) (app_last _ _) ⟨HL0.out, HL1.out⟩ ⟨hn0, hn1⟩ HE.out).mono ?_; rintro e w4 ⟨rfl, h', hp', hm', H4, G4⟩; have R := Lib.hid (build_end (h1 := ⟨h.p, v', []⟩) HG3.out hp' hm' H4 G4); clear hp' hm' H4 G4))
  go_ret
  obtain ⟨r1, r2, r3, r4⟩ := R.out
  exact ⟨rfl, h', r1, r2, r3, (Grew.of_below (HB.out.drew)).trans r4⟩
end Go.Proofs.YtknfhphhcnbndaaGreatDoor.V
