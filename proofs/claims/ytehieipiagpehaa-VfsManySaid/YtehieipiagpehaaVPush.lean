/-
  What an append of a node, or of an entry, makes of a file system in memory. Conditions: each fact's own.
-/
import Derived.Test.YtehieipiagpehaaVNew
import Derived.Deep.AppendLies
namespace Go.Proofs.Ytehieipiagpehaa
open Go.RowKit

theorem size_setCell (w : World) (a : Addr) (u : Value) : (w.setCell a u).heap.size = w.heap.size := by simp [World.setCell]
theorem own_some {g n c : Nat} : (Value.slice (some ⟨g, 0, none⟩) n c).ownBlock = some g := rfl

theorem Fs.apart' {h : Fsh} {w : World} (H : Fs h w) {i j : Nat} (hij : i ≠ j) {x y : Nd × Value} (hx : h.X[i]? = some x) (hy : h.X[j]? = some y) : x.2.ownBlock = none ∨ x.2.ownBlock ≠ y.2.ownBlock := by
  rcases Nat.lt_or_gt_of_ne hij with q | q
  · exact H.apart i j q x y hx hy
  · rcases H.apart j i q y x hy hx with e | e
    · cases hx2 : x.2.ownBlock with
      | none => exact .inl rfl
      | some k => exact .inr (by rw [e]; simp)
    · exact .inr (fun q => e q.symm)

/-- Behind the append of a node without entries, and the store of the new slice. -/
theorem Fs.push {h : Fsh} {w w1 : World} (H : Fs h w) {n : Nd} (hn : n.ents = []) {g cap : Nat} (ho : w1.ownsRow 0 71 17 (.slice (some ⟨g, 0, none⟩) (h.X.length + 1) cap) (h.X.length + 1) (flat h.X ++ n.cells (.slice none 0 0)))
    (hg : w.grownBy w1 h.v.ownBlock) (hat : h.v.ownBlock = some g ∨ g = w.heap.size) :
    Fs ⟨h.p, .slice (some ⟨g, 0, none⟩) (h.X.length + 1) cap, h.X ++ [(n, .slice none 0 0)]⟩ (w1.setCell ⟨h.p, 0, none⟩ (.slice (some ⟨g, 0, none⟩) (h.X.length + 1) cap)) ∧
    Grew h ⟨h.p, .slice (some ⟨g, 0, none⟩) (h.X.length + 1) cap, h.X ++ [(n, .slice none 0 0)]⟩ w (w1.setCell ⟨h.p, 0, none⟩ (.slice (some ⟨g, 0, none⟩) (h.X.length + 1) cap)) := by
  have hp : h.p < w.heap.size := H.lt (.inl rfl)
  have hpv : some h.p ≠ h.v.ownBlock := fun e => H.p_ne e.symm rfl
  have hgp : g ≠ h.p := by
    rcases hat with e | e
    · exact H.p_ne e
    · omega
  have hhead : w1.heap[h.p]? = some (.cells #[h.v] 68 (0, 0)) := (hg.block h.p hp hpv).trans H.head
  refine ⟨⟨?_, ?_, ?_, ?_⟩, ⟨hg.os, hg.tape, hg.output, ?_, ?_, ?_⟩⟩
  · exact heap_setCell_same w1 h.p 0 _ _ _ hhead
  · show World.ownsRow _ _ _ _ _ (h.X ++ [(n, Value.slice none 0 0)]).length _
    rw [List.length_append, flat_append, flat_one]
    refine owns_at ho fun k hk => heap_setCell_other _ _ _ _ ?_
    rw [own_some, Option.some.injEq] at hk
    subst hk
    exact hgp
  · intro x hx
    rcases List.mem_append.1 hx with q | q
    · refine owns_at (H.ents x q) fun k hk => ?_
      rw [heap_setCell_other _ _ _ _ (show k ≠ h.p from H.p_ne_ent q hk)]
      exact hg.block k (H.lt (.inr (.inr ⟨x, q, hk⟩))) (fun e => H.v_ne_ent q hk e.symm rfl)
    · obtain rfl : x = (n, .slice none 0 0) := by simpa using q
      show World.ownsRow _ _ _ _ (.slice none 0 0) n.ents.length (entCells n.ents)
      rw [hn]
      exact World.ownsRow_nil _ _ _ _
  · intro i j hij x y hx hy
    rw [List.getElem?_append] at hx hy
    have key : ∀ (c : Nat) (z : Nd × Value), (if c < h.X.length then h.X[c]? else [(n, Value.slice none 0 0)][c - h.X.length]?) = some z → h.X[c]? = some z ∨ z.2.ownBlock = none := by
      intro c z hz
      split at hz
      · exact .inl hz
      · rcases Nat.eq_zero_or_pos (c - h.X.length) with e | e
        · rw [e] at hz
          simp at hz
          subst hz
          exact .inr rfl
        · rw [List.getElem?_eq_none (by simp; omega)] at hz
          cases hz
    rcases key i x hx with a | a
    · rcases key j y hy with b | b
      · exact H.apart i j hij x y a b
      · cases e : x.2.ownBlock with
        | none => exact .inl rfl
        | some k => exact .inr (by rw [b]; simp)
    · exact .inl a
  · rw [size_setCell]; exact hg.size
  · intro k hk hn'
    rw [heap_setCell_other _ _ _ _ (fun e => hn' (.inl e))]
    exact hg.block k hk (fun e => hn' (.inr (.inl e.symm)))
  · intro k hk
    rcases hk with e | e | ⟨x, hx, e⟩
    · exact .inl (.inl e)
    · rw [own_some, Option.some.injEq] at e
      subst e
      rcases hat with q | q
      · exact .inl (.inr (.inl q))
      · exact .inr (by omega)
    · rcases List.mem_append.1 hx with q | q
      · exact .inl (.inr (.inr ⟨x, q, e⟩))
      · obtain rfl : x = (n, .slice none 0 0) := by simpa using q
        cases e

/-- Behind the append of an entry to a node's entries, and the store of the new slice. -/
theorem Fs.enter {h : Fsh} {w w1 : World} (H : Fs h w) {G C : Nat} (hv : h.v = .slice (some ⟨G, 0, none⟩) h.X.length C) {i : Nat} {n : Nd} {ev : Value} (hx : h.X[i]? = some (n, ev)) {s : ByteArray} {id : Int} {g cap : Nat}
    (ho : w1.ownsRow 0 60 2 (.slice (some ⟨g, 0, none⟩) (n.ents.length + 1) cap) (n.ents.length + 1) (entCells n.ents ++ [.string s, .int .i64 id]))
    (hg : w.grownBy w1 ev.ownBlock) (hat : ev.ownBlock = some g ∨ g = w.heap.size) :
    Fs ⟨h.p, h.v, h.X.set i ({ n with ents := n.ents ++ [(s, id)] }, .slice (some ⟨g, 0, none⟩) (n.ents.length + 1) cap)⟩ (w1.setCell ⟨G, i * 17 + 16, none⟩ (.slice (some ⟨g, 0, none⟩) (n.ents.length + 1) cap)) ∧
    Grew h ⟨h.p, h.v, h.X.set i ({ n with ents := n.ents ++ [(s, id)] }, .slice (some ⟨g, 0, none⟩) (n.ents.length + 1) cap)⟩ w (w1.setCell ⟨G, i * 17 + 16, none⟩ (.slice (some ⟨g, 0, none⟩) (n.ents.length + 1) cap)) := by
  have hi : i < h.X.length := (List.getElem?_eq_some_iff.1 hx).1
  have hmem : (n, ev) ∈ h.X := List.mem_of_getElem? hx
  have hvo : h.v.ownBlock = some G := by rw [hv]; rfl
  have hG : G < w.heap.size := H.lt (.inr (.inl hvo))
  have hgp : g ≠ h.p := by
    rcases hat with e | e
    · exact H.p_ne_ent hmem e
    · have := H.lt (.inl (rfl : h.p = h.p)); omega
  have hgG : g ≠ G := by
    rcases hat with e | e
    · exact H.v_ne_ent hmem e hvo
    · omega
  have hother : ∀ j x, j ≠ i → h.X[j]? = some x → ∀ k, x.2.ownBlock = some k → k ≠ g ∧ some k ≠ ev.ownBlock ∧ k ≠ G := by
    intro j x hj hxj k hk
    have hkl := H.lt (.inr (.inr ⟨x, List.mem_of_getElem? hxj, hk⟩))
    have := H.apart' hj hxj hx
    rw [hk] at this
    have h2 : some k ≠ ev.ownBlock := by
      rcases this with e | e
      · cases e
      · exact e
    refine ⟨?_, h2, H.v_ne_ent (List.mem_of_getElem? hxj) hk hvo⟩
    rcases hat with e | e
    · rw [e] at h2
      exact fun q => h2 (by rw [q])
    · omega
  have hset : ∀ (c : Nat) (z : Nd × Value), (h.X.set i ({ n with ents := n.ents ++ [(s, id)] }, Value.slice (some ⟨g, 0, none⟩) (n.ents.length + 1) cap))[c]? = some z → (c = i ∧ z = ({ n with ents := n.ents ++ [(s, id)] }, Value.slice (some ⟨g, 0, none⟩) (n.ents.length + 1) cap)) ∨ (c ≠ i ∧ h.X[c]? = some z) := by
    intro c z hz
    rw [List.getElem?_set] at hz
    split at hz
    · rename_i e
      subst e
      simp at hz
      exact .inl ⟨rfl, hz.symm⟩
    · rename_i e
      exact .inr ⟨fun q => e q.symm, hz⟩
  refine ⟨⟨?_, ?_, ?_, ?_⟩, ⟨hg.os, hg.tape, hg.output, ?_, ?_, ?_⟩⟩
  · rw [heap_setCell_other _ _ _ _ (show h.p ≠ G from fun e => H.p_ne hvo e.symm)]
    exact (hg.block h.p (H.lt (.inl rfl)) (fun e => H.p_ne_ent hmem e.symm rfl)).trans H.head
  · have h1 : w1.ownsRow 0 71 17 h.v h.X.length (flat h.X) := owns_at H.own fun k hk => by
      rw [hvo, Option.some.injEq] at hk
      subst hk
      exact hg.block _ hG (fun e => H.v_ne_ent hmem e.symm hvo rfl)
    rw [hv] at h1
    have := owns_setCell h1 (j := i * 17 + 16) (by rw [flat_len]; omega) (.slice (some ⟨g, 0, none⟩) (n.ents.length + 1) cap)
    rw [flat_set h.X i 16 (n, ev) ({ n with ents := n.ents ++ [(s, id)] }, .slice (some ⟨g, 0, none⟩) (n.ents.length + 1) cap) _ hx (by omega) rfl] at this
    show World.ownsRow _ _ _ _ h.v (h.X.set i _).length _
    rw [List.length_set, hv]
    exact this
  · intro x hx'
    obtain ⟨c, hc⟩ := List.mem_iff_getElem?.1 hx'
    rcases hset c x hc with ⟨rfl, rfl⟩ | ⟨hci, hcx⟩
    · show World.ownsRow _ _ _ _ (.slice (some ⟨g, 0, none⟩) (n.ents.length + 1) cap) (n.ents ++ [(s, id)]).length (entCells (n.ents ++ [(s, id)]))
      rw [List.length_append, entCells_append]
      refine owns_at ho fun k hk => heap_setCell_other _ _ _ _ ?_
      rw [own_some, Option.some.injEq] at hk
      subst hk
      exact hgG
    · refine owns_at (H.ents x (List.mem_of_getElem? hcx)) fun k hk => ?_
      obtain ⟨q1, q2, q3⟩ := hother c x hci hcx k hk
      rw [heap_setCell_other _ _ _ _ (show k ≠ G from q3)]
      exact hg.block k (H.lt (.inr (.inr ⟨x, List.mem_of_getElem? hcx, hk⟩))) q2
  · intro a b hab x y hxa hyb
    rcases hset a x hxa with ⟨rfl, rfl⟩ | ⟨ha, hxa'⟩
    · rcases hset b y hyb with ⟨rfl, rfl⟩ | ⟨hb, hyb'⟩
      · omega
      · right
        show some g ≠ y.2.ownBlock
        intro e
        exact (hother b y hb hyb' g e.symm).1 rfl
    · rcases hset b y hyb with ⟨rfl, rfl⟩ | ⟨hb, hyb'⟩
      · cases e : x.2.ownBlock with
        | none => exact .inl rfl
        | some k =>
          right
          show some k ≠ some g
          exact fun q => (hother a x ha hxa' k e).1 (Option.some.inj q)
      · exact H.apart a b hab x y hxa' hyb'
  · rw [size_setCell]; exact hg.size
  · intro k hk hn'
    rw [heap_setCell_other _ _ _ _ (show k ≠ G from fun e => hn' (.inr (.inl (by rw [hvo, e]))))]
    exact hg.block k hk (fun e => hn' (.inr (.inr ⟨_, hmem, e.symm⟩)))
  · intro k hk
    rcases hk with e | e | ⟨x, hx', e⟩
    · exact .inl (.inl e)
    · exact .inl (.inr (.inl e))
    · obtain ⟨c, hc⟩ := List.mem_iff_getElem?.1 hx'
      rcases hset c x hc with ⟨rfl, rfl⟩ | ⟨hci, hcx⟩
      · have e' : g = k := by simpa [Value.ownBlock] using e
        subst e'
        rcases hat with q | q
        · exact .inl (.inr (.inr ⟨_, hmem, q⟩))
        · exact .inr (by omega)
      · exact .inl (.inr (.inr ⟨x, List.mem_of_getElem? hcx, e⟩))
end Go.Proofs.Ytehieipiagpehaa
