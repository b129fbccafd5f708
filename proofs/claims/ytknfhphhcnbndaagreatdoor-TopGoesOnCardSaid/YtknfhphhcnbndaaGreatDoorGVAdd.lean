/-
  What an append of a node, or of an entry, makes of a file system in memory. Conditions: each fact's own.
  What FS.add makes: a node of a device, numbered on, at the end of the nodes. Conditions: at most 1000000 nodes.
-/
import Derived.Test.YtknfhphhcnbndaaGreatDoorGVNew
import Derived.Deep.AppendLies
import Derived.Deep.RegionLaw
import Derived.Deep.MidRow
import Derived.Deep.WholeRow
set_option linter.unusedVariables false
set_option linter.unusedSimpArgs false
namespace Go.Proofs.YtknfhphhcnbndaaGreatDoor.V
open Go.RowKit

theorem size_setCell (w : World) (a : Addr) (u : Value) : (w.setCell a u).heap.size = w.heap.size := by simp [World.setCell]
theorem own_some {g n c : Nat} : (Value.slice (some ⟨g, 0, none⟩) n c).ownBlock = some g := rfl

theorem Fs.apart' {h : Fsh} {w : World} (H : Fs h w) {i j : Nat} (hij : i ≠ j) {x y : Nd × Value} (hx : h.X[i]? = some x) (hy : h.X[j]? = some y) : x.2.ownBlock = none ∨ x.2.ownBlock ≠ y.2.ownBlock := by
  rcases Nat.lt_or_gt_of_ne hij with q | q
  · exact H.apart i j q x y hx hy
  · rcases H.apart j i q y x hy hx with e | e
    · cases hx2 : x.2.ownBlock with
      | none => exact .inl rfl
      | some k => exact .inr (by rw [e]; simp)
    · exact .inr (fun q => e q.symm)

/-- Behind the append of a node without entries, and the store of the new slice. -/
theorem Fs.push {h : Fsh} {w w1 : World} (H : Fs h w) {n : Nd} (hn : n.ents = []) {g cap : Nat} (ho : w1.ownsRow 0 135 17 (.slice (some ⟨g, 0, none⟩) (h.X.length + 1) cap) (h.X.length + 1) (flat h.X ++ n.cells (.slice none 0 0)))
    (hg : w.grownBy w1 h.v.ownBlock) (hat : h.v.ownBlock = some g ∨ g = w.heap.size) :
    Fs ⟨h.p, .slice (some ⟨g, 0, none⟩) (h.X.length + 1) cap, h.X ++ [(n, .slice none 0 0)]⟩ (w1.setCell ⟨h.p, 0, none⟩ (.slice (some ⟨g, 0, none⟩) (h.X.length + 1) cap)) ∧
    Grew h ⟨h.p, .slice (some ⟨g, 0, none⟩) (h.X.length + 1) cap, h.X ++ [(n, .slice none 0 0)]⟩ w (w1.setCell ⟨h.p, 0, none⟩ (.slice (some ⟨g, 0, none⟩) (h.X.length + 1) cap)) := by
  have hp : h.p < w.heap.size := H.lt (.inl rfl)
  have hpv : some h.p ≠ h.v.ownBlock := fun e => H.p_ne e.symm rfl
  have hgp : g ≠ h.p := by
    rcases hat with e | e
    · exact H.p_ne e
    · omega
  have hhead : w1.heap[h.p]? = some (.cells #[h.v] 137 (0, 0)) := (hg.block h.p hp hpv).trans H.head
  refine ⟨⟨?_, ?_, ?_, ?_⟩, ⟨hg.os, hg.tape, hg.output, ?_, ?_, ?_⟩⟩
  · exact heap_setCell_same w1 h.p 0 _ _ _ hhead
  · show World.ownsRow _ _ _ _ _ (h.X ++ [(n, Value.slice none 0 0)]).length _
    rw [List.length_append, flat_append, flat_one]
    refine owns_at ho fun k hk => heap_setCell_other _ _ _ _ ?_
    rw [own_some, Option.some.injEq] at hk
    subst hk
    exact hgp
  · intro x hx
    rcases List.mem_append.1 hx with q | q
    · refine owns_at (H.ents x q) fun k hk => ?_
      rw [heap_setCell_other _ _ _ _ (show k ≠ h.p from H.p_ne_ent q hk)]
      exact hg.block k (H.lt (.inr (.inr ⟨x, q, hk⟩))) (fun e => H.v_ne_ent q hk e.symm rfl)
    · obtain rfl : x = (n, .slice none 0 0) := by simpa using q
      show World.ownsRow _ _ _ _ (.slice none 0 0) n.ents.length (entCells n.ents)
      rw [hn]
      exact World.ownsRow_nil _ _ _ _
  · intro i j hij x y hx hy
    rw [List.getElem?_append] at hx hy
    have key : ∀ (c : Nat) (z : Nd × Value), (if c < h.X.length then h.X[c]? else [(n, Value.slice none 0 0)][c - h.X.length]?) = some z → h.X[c]? = some z ∨ z.2.ownBlock = none := by
      intro c z hz
      split at hz
      · exact .inl hz
      · rcases Nat.eq_zero_or_pos (c - h.X.length) with e | e
        · rw [e] at hz
          simp at hz
          subst hz
          exact .inr rfl
        · rw [List.getElem?_eq_none (by simp; omega)] at hz
          cases hz
    rcases key i x hx with a | a
    · rcases key j y hy with b | b
      · exact H.apart i j hij x y a b
      · cases e : x.2.ownBlock with
        | none => exact .inl rfl
        | some k => exact .inr (by rw [b]; simp)
    · exact .inl a
  · rw [size_setCell]; exact hg.size
  · intro k hk hn'
    rw [heap_setCell_other _ _ _ _ (fun e => hn' (.inl e))]
    exact hg.block k hk (fun e => hn' (.inr (.inl e.symm)))
  · intro k hk
    rcases hk with e | e | ⟨x, hx, e⟩
    · exact .inl (.inl e)
    · rw [own_some, Option.some.injEq] at e
      subst e
      rcases hat with q | q
      · exact .inl (.inr (.inl q))
      · exact .inr (by omega)
    · rcases List.mem_append.1 hx with q | q
      · exact .inl (.inr (.inr ⟨x, q, e⟩))
      · obtain rfl : x = (n, .slice none 0 0) := by simpa using q
        cases e

/-- Behind the append of an entry to a node's entries, and the store of the new slice. -/
theorem Fs.enter {h : Fsh} {w w1 : World} (H : Fs h w) {G C : Nat} (hv : h.v = .slice (some ⟨G, 0, none⟩) h.X.length C) {i : Nat} {n : Nd} {ev : Value} (hx : h.X[i]? = some (n, ev)) {s : ByteArray} {id : Int} {g cap : Nat}
    (ho : w1.ownsRow 0 177 2 (.slice (some ⟨g, 0, none⟩) (n.ents.length + 1) cap) (n.ents.length + 1) (entCells n.ents ++ [.string s, .int .i64 id]))
    (hg : w.grownBy w1 ev.ownBlock) (hat : ev.ownBlock = some g ∨ g = w.heap.size) :
    Fs ⟨h.p, h.v, h.X.set i ({ n with ents := n.ents ++ [(s, id)] }, .slice (some ⟨g, 0, none⟩) (n.ents.length + 1) cap)⟩ (w1.setCell ⟨G, i * 17 + 16, none⟩ (.slice (some ⟨g, 0, none⟩) (n.ents.length + 1) cap)) ∧
    Grew h ⟨h.p, h.v, h.X.set i ({ n with ents := n.ents ++ [(s, id)] }, .slice (some ⟨g, 0, none⟩) (n.ents.length + 1) cap)⟩ w (w1.setCell ⟨G, i * 17 + 16, none⟩ (.slice (some ⟨g, 0, none⟩) (n.ents.length + 1) cap)) := by
  have hi : i < h.X.length := (List.getElem?_eq_some_iff.1 hx).1
  have hmem : (n, ev) ∈ h.X := List.mem_of_getElem? hx
  have hvo : h.v.ownBlock = some G := by rw [hv]; rfl
  have hG : G < w.heap.size := H.lt (.inr (.inl hvo))
  have hgp : g ≠ h.p := by
    rcases hat with e | e
    · exact H.p_ne_ent hmem e
    · have := H.lt (.inl (rfl : h.p = h.p)); omega
  have hgG : g ≠ G := by
    rcases hat with e | e
    · exact H.v_ne_ent hmem e hvo
    · omega
  have hother : ∀ j x, j ≠ i → h.X[j]? = some x → ∀ k, x.2.ownBlock = some k → k ≠ g ∧ some k ≠ ev.ownBlock ∧ k ≠ G := by
    intro j x hj hxj k hk
    have hkl := H.lt (.inr (.inr ⟨x, List.mem_of_getElem? hxj, hk⟩))
    have := H.apart' hj hxj hx
    rw [hk] at this
    have h2 : some k ≠ ev.ownBlock := by
      rcases this with e | e
      · cases e
      · exact e
    refine ⟨?_, h2, H.v_ne_ent (List.mem_of_getElem? hxj) hk hvo⟩
    rcases hat with e | e
    · rw [e] at h2
      exact fun q => h2 (by rw [q])
    · omega
  have hset : ∀ (c : Nat) (z : Nd × Value), (h.X.set i ({ n with ents := n.ents ++ [(s, id)] }, Value.slice (some ⟨g, 0, none⟩) (n.ents.length + 1) cap))[c]? = some z → (c = i ∧ z = ({ n with ents := n.ents ++ [(s, id)] }, Value.slice (some ⟨g, 0, none⟩) (n.ents.length + 1) cap)) ∨ (c ≠ i ∧ h.X[c]? = some z) := by
    intro c z hz
    rw [List.getElem?_set] at hz
    split at hz
    · rename_i e
      subst e
      simp at hz
      exact .inl ⟨rfl, hz.symm⟩
    · rename_i e
      exact .inr ⟨fun q => e q.symm, hz⟩
  refine ⟨⟨?_, ?_, ?_, ?_⟩, ⟨hg.os, hg.tape, hg.output, ?_, ?_, ?_⟩⟩
  · rw [heap_setCell_other _ _ _ _ (show h.p ≠ G from fun e => H.p_ne hvo e.symm)]
    exact (hg.block h.p (H.lt (.inl rfl)) (fun e => H.p_ne_ent hmem e.symm rfl)).trans H.head
  · have h1 : w1.ownsRow 0 135 17 h.v h.X.length (flat h.X) := owns_at H.own fun k hk => by
      rw [hvo, Option.some.injEq] at hk
      subst hk
      exact hg.block _ hG (fun e => H.v_ne_ent hmem e.symm hvo rfl)
    rw [hv] at h1
    have := owns_setCell h1 (j := i * 17 + 16) (by rw [flat_len]; omega) (.slice (some ⟨g, 0, none⟩) (n.ents.length + 1) cap)
    rw [flat_set h.X i 16 (n, ev) ({ n with ents := n.ents ++ [(s, id)] }, .slice (some ⟨g, 0, none⟩) (n.ents.length + 1) cap) _ hx (by omega) rfl] at this
    show World.ownsRow _ _ _ _ h.v (h.X.set i _).length _
    rw [List.length_set, hv]
    exact this
  · intro x hx'
    obtain ⟨c, hc⟩ := List.mem_iff_getElem?.1 hx'
    rcases hset c x hc with ⟨rfl, rfl⟩ | ⟨hci, hcx⟩
    · show World.ownsRow _ _ _ _ (.slice (some ⟨g, 0, none⟩) (n.ents.length + 1) cap) (n.ents ++ [(s, id)]).length (entCells (n.ents ++ [(s, id)]))
      rw [List.length_append, entCells_append]
      refine owns_at ho fun k hk => heap_setCell_other _ _ _ _ ?_
      rw [own_some, Option.some.injEq] at hk
      subst hk
      exact hgG
    · refine owns_at (H.ents x (List.mem_of_getElem? hcx)) fun k hk => ?_
      obtain ⟨q1, q2, q3⟩ := hother c x hci hcx k hk
      rw [heap_setCell_other _ _ _ _ (show k ≠ G from q3)]
      exact hg.block k (H.lt (.inr (.inr ⟨x, List.mem_of_getElem? hcx, hk⟩))) q2
  · intro a b hab x y hxa hyb
    rcases hset a x hxa with ⟨rfl, rfl⟩ | ⟨ha, hxa'⟩
    · rcases hset b y hyb with ⟨rfl, rfl⟩ | ⟨hb, hyb'⟩
      · omega
      · right
        show some g ≠ y.2.ownBlock
        intro e
        exact (hother b y hb hyb' g e.symm).1 rfl
    · rcases hset b y hyb with ⟨rfl, rfl⟩ | ⟨hb, hyb'⟩
      · cases e : x.2.ownBlock with
        | none => exact .inl rfl
        | some k =>
          right
          show some k ≠ some g
          exact fun q => (hother a x ha hxa' k e).1 (Option.some.inj q)
      · exact H.apart a b hab x y hxa' hyb'
  · rw [size_setCell]; exact hg.size
  · intro k hk hn'
    rw [heap_setCell_other _ _ _ _ (show k ≠ G from fun e => hn' (.inr (.inl (by rw [hvo, e]))))]
    exact hg.block k hk (fun e => hn' (.inr (.inr ⟨_, hmem, e.symm⟩)))
  · intro k hk
    rcases hk with e | e | ⟨x, hx', e⟩
    · exact .inl (.inl e)
    · exact .inl (.inr (.inl e))
    · obtain ⟨c, hc⟩ := List.mem_iff_getElem?.1 hx'
      rcases hset c x hc with ⟨rfl, rfl⟩ | ⟨hci, hcx⟩
      · have e' : g = k := by simpa [Value.ownBlock] using e
        subst e'
        rcases hat with q | q
        · exact .inl (.inr (.inr ⟨_, hmem, q⟩))
        · exact .inr (by omega)
      · exact .inl (.inr (.inr ⟨x, List.mem_of_getElem? hcx, e⟩))
end Go.Proofs.YtknfhphhcnbndaaGreatDoor.V

namespace Go.Proofs.YtknfhphhcnbndaaGreatDoor.V
open Go.RowKit

/-- How many of the first k nodes are of the device d. -/
def cntD (d : Int) : List Nd → Int
  | [] => 0
  | n :: r => (if n.dev = d then 1 else 0) + cntD d r
theorem cntD_append (d : Int) : ∀ a b, cntD d (a ++ b) = cntD d a + cntD d b
  | [], b => by simp [cntD]
  | x :: r, b => by rw [List.cons_append, cntD, cntD, cntD_append d r b]; omega
theorem cntD_bd (d : Int) : ∀ a : List Nd, 0 ≤ cntD d a ∧ cntD d a ≤ (a.length : Int)
  | [] => by simp [cntD]
  | x :: r => by have := cntD_bd d r; rw [cntD, List.length_cons]; split <;> omega
def cntX (d : Int) (X : List (Nd × Value)) (k : Nat) : Int := cntD d ((X.take k).map Prod.fst)
theorem cntX_next {d : Int} {X : List (Nd × Value)} {k : Nat} {x : Nd × Value} (h : X[k]? = some x) : cntX d X (k + 1) = cntX d X k + if x.1.dev = d then 1 else 0 := by
  unfold cntX
  rw [List.take_add_one, h, List.map_append, cntD_append]
  simp [cntD]

/-- The node that add makes. -/
def addedNd (n : Nd) (d : Int) (M : List Nd) : Nd := { n with dev := d, ino := 1 + cntD d M, over := (M.length : Int) }
theorem infoNode : (Tryz.prog.info? 135).map (fun i => (i.zero, i.size, i.bytes)) = some (some (.agg (Nd.cells { dev := 0, ino := 0, kind := 0, mode := 0, uid := 0, gid := 0, size := 0, blocks := 0, links := 0, t0 := 0, t1 := 0, t2 := 0, target := ⟨#[]⟩, dead := false, up := 0, over := 0, ents := [] } (.slice none 0 0)).toArray), 17, 160) := by kernel_rfl

def AddRel (h : Fsh) (n : Nd) (d : Int) (w : World) (v : Value) (wr : World) : Prop :=
  ∃ k : Nat, k ≤ h.X.length ∧ v = .int .i64 (k : Int) ∧ Below w.heap.size w wr ∧ wr.heap[w.heap.size]? = some (.cells (Nd.cells { n with dev := d, ino := 1 + cntX d h.X k } (.slice none 0 0)).toArray 135 (0, 0))

theorem addRel_same {h : Fsh} {n : Nd} {d : Int} {w wr : World} {k : Nat} {x : Nd × Value} (hk : k < h.X.length) (hx : h.X[k]? = some x) (hb : Below w.heap.size w wr)
    (hbox : wr.heap[w.heap.size]? = some (.cells (Nd.cells { n with dev := d, ino := 1 + cntX d h.X k } (.slice none 0 0)).toArray 135 (0, 0))) (hd : (x.1.dev == d) = false) (c : Array Value) (T : TypeId) :
    AddRel h n d w (.int .i64 ((k : Int) + 1)) (wr.alloc (.cells c T)) := by
  have hlt := heap_lt hbox
  refine ⟨k + 1, by omega, rfl, hb.alloc (by omega) _, ?_⟩
  rw [heap_alloc_old _ _ hlt, hbox, cntX_next hx, if_neg (by simpa using hd), Int.add_zero]
theorem addRel_more {h : Fsh} {n : Nd} {d : Int} {w wr : World} {k : Nat} {x : Nd × Value} {u : Int} (hk : k < h.X.length) (hx : h.X[k]? = some x) (hb : Below w.heap.size w wr)
    (hbox : wr.heap[w.heap.size]? = some (.cells (Nd.cells { n with dev := d, ino := 1 + cntX d h.X k } (.slice none 0 0)).toArray 135 (0, 0))) (hd : (x.1.dev == d) = true) (hu : cntX d h.X k = u) (c : Array Value) (T : TypeId) :
    AddRel h n d w (.int .i64 ((k : Int) + 1)) ((wr.setCell ⟨w.heap.size, 1, none⟩ (.int .i64 (1 + u + 1))).alloc (.cells c T)) := by
  have hlt := heap_lt hbox
  subst hu
  refine ⟨k + 1, by omega, rfl, (hb.setCell (Nat.le_refl _) _).alloc (by rw [size_setCell]; omega) _, ?_⟩
  rw [heap_alloc_old _ _ (by rw [size_setCell]; exact hlt), heap_setCell_same _ _ _ _ _ _ hbox, cntX_next hx, if_pos (by simpa using hd)]
  show some (Obj.cells (Array.setIfInBounds _ 1 _) _ _) = _
  rw [show 1 + cntX d h.X k + 1 = 1 + (cntX d h.X k + 1) by omega]
  rfl
theorem nc_one (x : Nd) (ev : Value) (hev : ev.oneCell' = true) : ∀ u ∈ x.cells ev, u.oneCell' = true := by
  intro u hu
  simp only [Nd.cells, List.mem_cons, List.mem_nil_iff, or_false] at hu
  rcases hu with rfl | rfl | rfl | rfl | rfl | rfl | rfl | rfl | rfl | rfl | rfl | rfl | rfl | rfl | rfl | rfl | rfl
  all_goals first | rfl | exact hev

theorem add_end {h : Fsh} {n' : Nd} {w w9 w1 : World} {ao : Option Addr} {cap g cap1 : Nat} {o : Obj} (H9 : Fs h w9) (hv : h.v = .slice ao h.X.length cap) (B9 : Below w.heap.size w w9) (hn : n'.ents = [])
    (ho : w1.ownsRow 0 135 17 (.slice (some ⟨g, 0, none⟩) (h.X.length + 1) cap1) (h.X.length + 1) (flat h.X ++ n'.cells (.slice none 0 0)))
    (hg : (w9.drew.alloc o).grownBy w1 (Value.slice ao h.X.length cap).ownBlock) (hat : (Value.slice ao h.X.length cap).ownBlock = some g ∨ g = (w9.drew.alloc o).heap.size) (hB : w.heap.size ≤ w9.heap.size) :
    ∃ v', Fs ⟨h.p, v', h.X ++ [(n', .slice none 0 0)]⟩ (w1.setCell ⟨h.p, 0, none⟩ (.slice (some ⟨g, 0, none⟩) (h.X.length + 1) cap1)) ∧ Grew h ⟨h.p, v', h.X ++ [(n', .slice none 0 0)]⟩ w (w1.setCell ⟨h.p, 0, none⟩ (.slice (some ⟨g, 0, none⟩) (h.X.length + 1) cap1)) := by
  rw [← hv] at hg hat
  have HA : Fs h (w9.drew.alloc o) := H9.at fun k hk => heap_alloc_old _ _ (by exact H9.lt hk)
  obtain ⟨r1, r2⟩ := HA.push hn ho hg hat
  exact ⟨_, r1, (Grew.of_below (B9.drew.alloc hB o)).trans r2⟩

set_option maxRecDepth 100000 in
set_option maxHeartbeats 4000000 in
theorem add_any (h : Fsh) (n : Nd) (d : Int) (w : World) (H : Fs h w) (hn : n.ents = []) (hX : h.X.length ≤ 1000000) :
    Calls Tryz.prog 77 #[.pointer (some ⟨h.p, 0, none⟩), .int .i64 d, aggOf n] w fun e w' => e = .returned (.int .i64 (h.X.length : Int)) ∧
      ∃ v', Fs ⟨h.p, v', h.X ++ [(addedNd n d h.M, .slice none 0 0)]⟩ w' ∧ Grew h ⟨h.p, v', h.X ++ [(addedNd n d h.M, .slice none 0 0)]⟩ w w' := by
  have hp : h.p < w.heap.size := H.lt (.inl rfl)
  have c0 := H.cell0
  have c0a : ∀ o, (w.alloc o).cell? ⟨h.p, 0, none⟩ = some h.v := fun o => (World.cell?_alloc_past _ _ _ hp).trans c0
  obtain ⟨ao, cap, hv⟩ : ∃ ao cap, h.v = .slice ao h.X.length cap := by
    rcases H.own.2 with ⟨e, e2⟩ | ⟨g, cap, cur, e, _⟩
    · exact ⟨none, 0, by rw [e, e2]⟩
    · exact ⟨_, cap, e⟩
  rw [hv] at c0 c0a
  unfold aggOf
  have k0 : ∀ ev, (n.cells ev)[0]? = some (.int .i64 n.dev) := fun _ => rfl
  have k1 : ∀ ev, (n.cells ev)[1]? = some (.int .i64 n.ino) := fun _ => rfl
  go_enter Tryz.func77, Tryz.ntmps77
  go_wp2
  clear c0a k0 k1
  go_loopw [25] (AddRel h n d w) (fun v _ => h.X.length - (intOf v).toNat)
  case atStart => exact ⟨0, Nat.zero_le _, rfl, (Below.refl _ _).alloc (Nat.le_refl _) _, heap_alloc_new _ _⟩
  case round =>
    obtain ⟨k, hk, rfl, hb, hbox⟩ := hrel
    have HB := Lib.hid hb
    have HBox := Lib.hid hbox
    have HH := Lib.hid (H.keep hb)
    have hsz := hb.size
    have hwp : w.heap.size < wr.heap.size := heap_lt hbox
    have bd := cntD_bd d ((h.X.take k).map Prod.fst)
    rw [List.length_map, List.length_take] at bd
    have HC := Lib.hid (show cntX d h.X k = cntD d ((h.X.take k).map Prod.fst) from rfl)
    obtain ⟨c, hc⟩ : ∃ c, cntX d h.X k = c := ⟨_, rfl⟩
    rw [hc] at hbox
    have hc0 : 0 ≤ c := by rw [← hc]; exact bd.1
    have hc1 : c ≤ 1000000 := by rw [← hc]; have := bd.2; unfold cntX; omega
    have HC := Lib.hid hc
    clear hc bd hb
    by_cases hlt : k < h.X.length
    · obtain ⟨g, cap', hv', _, _⟩ := HH.out.slice (by omega)
      obtain ⟨rfl, rfl⟩ : ao = some ⟨g, 0, none⟩ ∧ cap' = cap := by
        rw [hv] at hv'
        simp only [Value.slice.injEq, true_and] at hv'
        exact ⟨hv'.1, hv'.2.symm⟩
      obtain ⟨x, hx⟩ : ∃ x, h.X[k]? = some x := ⟨_, List.getElem?_eq_getElem hlt⟩
      have HX := Lib.hid hx
      have hload := Lib.hid (show wr.rangeAt g (k * 17) (nc x) from fun j v hj => HH.out.at_node hv hx (show j < 17 from by have := (List.getElem?_eq_some_iff.1 hj).1; rwa [nc_len] at this) hj)
      have hev := Lib.hid (show (nc x).toArray.all (·.oneCell') = true from all_oneCell_toArray (fun u hu => nc_one x.1 x.2 (HH.out.ev_one hx) u hu))
      have kx : (nc x)[0]? = some (.int .i64 x.1.dev) := rfl
      have b1 : ∀ o, (wr.alloc o).cell? ⟨w.heap.size, 1, none⟩ = some (.int .i64 (1 + c)) := fun o => by rw [World.cell?_alloc_past _ _ _ hwp, cell_of_row _ _ _ _ _ _ hbox]; rfl
      have f1 : ∀ o, (wr.alloc o).frozen? ⟨w.heap.size, 1, none⟩ = false := fun o => by rw [World.frozen?_alloc_past _ _ _ hwp]; exact frozen_of_row _ _ _ _ _ hbox
      clear hx hbox
      go_wp2_with (first
        | (refine wpList_load_mid rfl 135 (.tmp 27) rfl g (k * 17) rfl (nc x) _ hload.out Tryz.underlying135 rfl sizeNode ?_)
        | (refine wpList_store_row rfl 135 (.tmp 9) (.tmp 28) rfl wr.heap.size (nc x).toArray rfl rfl _ _ (heap_alloc_new _ _) (by rw [sizeNode]; rfl) rfl hev.out ?_; rw [World.setRow_alloc_new]))
      · have hd : (x.1.dev == d) = true := by assumption
        have R := Lib.hid (addRel_more hlt HX.out HB.out HBox.out hd HC.out (nc x).toArray 135)
        go_roundw
        case rel => exact R.out
        case measure => simp [intOf]; omega
      · have hd : (x.1.dev == d) = false := by assumption
        have R := Lib.hid (addRel_same hlt HX.out HB.out HBox.out hd (nc x).toArray 135)
        go_roundw
        case rel => exact R.out
        case measure => simp [intOf]; omega
    · have hke : k = h.X.length := by omega
      have o15 : wr.cell? ⟨w.heap.size, 15, none⟩ = some (.int .i64 n.over) := by rw [cell_of_row _ _ _ _ _ _ hbox]; rfl
      have f15 : wr.frozen? ⟨w.heap.size, 15, none⟩ = false := frozen_of_row _ _ _ _ _ hbox
      clear hbox
      go_wp2
      generalize hw9 : wr.setCell ⟨w.heap.size, 15, none⟩ (.int .i64 (h.X.length : Int)) = w9
      have hbox9 : w9.heap[w.heap.size]? = some (.cells (Nd.cells (addedNd n d h.M) (.slice none 0 0)).toArray 135 (0, 0)) := by
        rw [← hw9, heap_setCell_same _ _ _ _ _ _ HBox.out]
        have e : cntX d h.X k = cntD d h.M := by rw [hke]; unfold cntX Fsh.M; rw [List.take_length]
        rw [e]
        unfold addedNd Fsh.M
        rw [List.length_map]
        rfl
      have H9 : Fs h w9 := H.at fun j hj => by
        have := H.lt hj
        rw [← hw9, heap_setCell_other _ _ _ _ (by show j ≠ w.heap.size; omega)]
        exact HB.out.block j this
      have B9 := Lib.hid (show Below w.heap.size w w9 from by rw [← hw9]; exact HB.out.setCell (Nat.le_refl _) _)
      have c9 := H9.cell0
      have f9 := H9.frozen0
      rw [hv] at c9
      have hp9 : h.p < w9.heap.size := H9.lt (.inl rfl)
      have hq9 : w.heap.size < w9.heap.size := heap_lt hbox9
      have c9a : ∀ o, (w9.alloc o).cell? ⟨h.p, 0, none⟩ = some (.slice ao h.X.length cap) := fun o => (World.cell?_alloc_past _ _ _ hp9).trans c9
      have bx : ∀ j u, (Nd.cells (addedNd n d h.M) (.slice none 0 0))[j]? = some u → w9.cell? ⟨w.heap.size, j, none⟩ = some u := fun j u hu => by rw [cell_of_row _ _ _ _ _ _ hbox9]; simpa using hu
      have HH9 := Lib.hid H9
      obtain ⟨i0, hi, hz0, hz1, hz2⟩ := info_parts infoNode
      have hown := Lib.hid H9.own
      rw [hv] at hown
      have hn' : (addedNd n d h.M).ents = [] := hn
      generalize hne' : addedNd n d h.M = n' at *
      have HE := Lib.hid hne'
      have HN := Lib.hid hn'
      have HV := Lib.hid hv
      have HNE := Lib.hid (show some h.p ≠ (Value.slice ao h.X.length cap).ownBlock from by rw [← hv]; exact fun e => HH9.out.p_ne e.symm rfl)
      have c9b := Lib.hid (show ∀ o, (w9.drew.alloc o).cell? ⟨h.p, 0, none⟩ = some (.slice ao h.X.length cap) from fun o => (World.cell?_alloc_past _ _ _ (by exact hp9)).trans c9)
      have f9b := Lib.hid (show ∀ o, (w9.drew.alloc o).frozen? ⟨h.p, 0, none⟩ = false from fun o => (World.frozen?_alloc_past _ _ _ (by exact hp9)).trans f9)
      have hlt9 := Lib.hid (show ∀ o, h.p < (w9.drew.alloc o).heap.size from fun o => by simp; omega)
      clear hn' hv hne'
      have b0 := bx 0 _ rfl
      have b1 := bx 1 _ rfl
      have b2 := bx 2 _ rfl
      have b3 := bx 3 _ rfl
      have b4 := bx 4 _ rfl
      have b5 := bx 5 _ rfl
      have b6 := bx 6 _ rfl
      have b7 := bx 7 _ rfl
      have b8 := bx 8 _ rfl
      have b9 := bx 9 _ rfl
      have b10 := bx 10 _ rfl
      have b11 := bx 11 _ rfl
      have b12 := bx 12 _ rfl
      have b13 := bx 13 _ rfl
      have b14 := bx 14 _ rfl
      have b15 := bx 15 _ rfl
      have b16 := bx 16 _ rfl
      clear bx o15 f15 hw9 hbox9 H9 HBox HB HH HC
      go_region_law (refine step_append_lies _ rfl (.tmp 47) (.tmp 49) 132 rfl 0 135 i0 _ 17 160 Tryz.underlying132 hi hz0 hz1 hz2 rfl (by decide) (.slice ao h.X.length cap) h.X.length (flat h.X) (by simp [Act.eval]) (hown.out.alloc _) ⟨w9.heap.size, 0, none⟩ 1 1 (Nd.cells n' (.slice none 0 0)) (by simp [Act.eval]) rfl (World.news_of_block (heap_alloc_new _ _)) (nc_one _ _ rfl) (by decide) (by unfold maxLen; omega) (by omega) (Nat.zero_le _) _ rfl ?_; intro g cap1 w1 hown1 hgrow hat hlt1; have q1 := (hgrow.cell_far ⟨h.p, 0, none⟩ (hlt9.out _) HNE.out).trans (c9b.out _); have q2 := (hgrow.frozen_far ⟨h.p, 0, none⟩ (hlt9.out _) HNE.out).trans (f9b.out _); have R := Lib.hid (add_end HH9.out HV.out B9.out HN.out hown1 hgrow hat (by omega)); clear hown1 hgrow hat)
      all_goals go_wp2
      all_goals go_ret
      all_goals (rw [HE.out]; exact ⟨rfl, R.out⟩)
end Go.Proofs.YtknfhphhcnbndaaGreatDoor.V
