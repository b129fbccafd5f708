/-
  A tool's run in memory: what it was given, and its two builders; what writing to them leaves. Conditions: texts of at most 1000000000 bytes.
-/
import Derived.Test.YtknfhphhcnbndaaGreatDoorGZBld
import Derived.Test.YtknfhphhcnbndaaGreatDoorGPut
set_option linter.unusedVariables false
set_option linter.unusedSimpArgs false
namespace Go.Proofs.YtknfhphhcnbndaaGreatDoor.Z
open Go.Proofs.YtknfhphhcnbndaaGreatDoor.B
open Go.RowKit

theorem lie10 : LieB 126 15 10 := by unfold LieB; kernel_rfl
theorem lie12 : LieB 126 15 12 := by unfold LieB; kernel_rfl
/-- The run at g: its first ten cells, what was written, and its status. -/
def RunAt (B g : Nat) (S : List Value) (out err : ByteArray) (st : Int) (w : World) : Prop := ∃ cs v1 v2, FB 126 B g 10 out v1 cs w ∧ FB 126 B g 12 err v2 cs w ∧ (∀ k, v1.ownBlock = some k → v2.ownBlock ≠ some k) ∧ cs.size = 15 ∧ S.length = 10 ∧ (∀ j, j < 10 → cs[j]? = S[j]?) ∧ cs[14]? = some (.int .i64 st)
/-- What a run's own work leaves as it was. -/
def Kp (B g : Nat) (w w' : World) : Prop := Below B w w' ∧ Lib.OthersKept 5 (some g) w w' ∧ ∃ cs fz, w.heap[g]? = some (.cells cs 126 fz)
theorem Kp.below {B g : Nat} {w w' : World} (h : Kp B g w w') : Below B w w' := h.1
section
variable {B g : Nat} {S : List Value} {out err : ByteArray} {st : Int} {w w' : World}
theorem RunAt.lo (h : RunAt B g S out err st w) : B ≤ g ∧ g < w.heap.size ∧ B ≤ w.heap.size := by
  obtain ⟨cs, v1, v2, h1, _⟩ := h
  exact ⟨h1.lo, h1.lt, by have := h1.lo; have := h1.lt; omega⟩
theorem RunAt.len (h : RunAt B g S out err st w) : S.length = 10 := by
  obtain ⟨cs, v1, v2, h1, h2, h3, h4, h5, _⟩ := h
  exact h5
theorem RunAt.cell (h : RunAt B g S out err st w) {j : Nat} {v : Value} (hv : S[j]? = some v) : w.cell? ⟨g, j, none⟩ = some v := by
  obtain ⟨cs, v1, v2, h1, h2, h3, h4, h5, h6, h7⟩ := h
  rw [Lib.cell_of_heap h1.blk, h6 j (by have := (List.getElem?_eq_some_iff.1 hv).1; omega), hv]
theorem RunAt.range (h : RunAt B g S out err st w) (o : Nat) (l : List Value) (hl : ∀ j v, l[j]? = some v → S[o + j]? = some v) : w.rangeAt g o l := fun j v hj => h.cell (hl j v hj)
theorem RunAt.stat (h : RunAt B g S out err st w) : w.cell? ⟨g, 14, none⟩ = some (.int .i64 st) := by
  obtain ⟨cs, v1, v2, h1, h2, h3, h4, h5, h6, h7⟩ := h
  rw [Lib.cell_of_heap h1.blk, h7]
theorem RunAt.frozen (h : RunAt B g S out err st w) (j : Nat) : w.frozen? ⟨g, j, none⟩ = false := by
  obtain ⟨cs, v1, v2, h1, _⟩ := h
  exact Lib.frozen_of_heap h1.blk _
theorem RunAt.keep (h : RunAt B g S out err st w) (hb : Below w.heap.size w w') : RunAt B g S out err st w' := by
  obtain ⟨cs, v1, v2, h1, h2, r⟩ := h
  exact ⟨cs, v1, v2, h1.keep hb, h2.keep hb, r⟩
theorem RunAt.kind (h : RunAt B g S out err st w) : ∃ cs fz, w.heap[g]? = some (.cells cs 126 fz) := by
  obtain ⟨cs, v1, v2, h1, _⟩ := h
  exact ⟨_, _, h1.blk⟩
theorem Kp.of_below (h : RunAt B g S out err st w) (hb : Below w.heap.size w w') : Kp B g w w' :=
  ⟨hb.mono h.lo.2.2, fun k o hk _ _ => (hb.block k (heap_lt hk)).trans hk, h.kind⟩
theorem Kp.refl (h : RunAt B g S out err st w) : Kp B g w w := Kp.of_below h (Below.refl _ _)
theorem Kp.trans {x y z : World} (h : Kp B g x y) (k : Kp B g y z) : Kp B g x z := ⟨h.1.trans k.1, h.2.1.trans k.2.1, h.2.2⟩
theorem Kp.size {x y : World} (h : Kp B g x y) : x.heap.size ≤ y.heap.size := h.1.size
/-- A row of another type stays. -/
theorem Kp.owns {x y : World} (h : Kp B g x y) {b k n : Nat} {e : TypeId} {v : Value} {xs : List Value} (q : x.ownsRow b e k v n xs) (h1 : e ≠ 5) (h2 : e ≠ 126) : y.ownsRow b e k v n xs := by
  obtain ⟨q1, q2⟩ := q
  refine ⟨q1, ?_⟩
  rcases q2 with q2 | ⟨a, cap, cur, hv, hb, ha, rest⟩
  · exact .inl q2
  · refine .inr ⟨a, cap, cur, hv, hb, h.2.1 a _ ha ?_ ?_, rest⟩
    · obtain ⟨cs, fz, hg⟩ := h.2.2
      intro e1
      obtain rfl := Option.some.inj e1
      rw [hg] at ha
      simp only [Option.some.injEq, Obj.cells.injEq] at ha
      exact h2 ha.2.1.symm
    · intro c fz e1
      simp only [Obj.cells.injEq] at e1
      exact h1 e1.2.1
theorem new_apart {v1 v1' v2 : Value} {x y : World} {n : Nat} {xs : List Value} (hb : ∀ k, v1.ownBlock = some k → v2.ownBlock ≠ some k) (hf : FrB g v1 v1' x y) (h2 : x.ownsRowF B 5 1 v2 n xs) : ∀ k, v1'.ownBlock = some k → v2.ownBlock ≠ some k := fun k hk e => by
  rcases hf.new k hk with q | q
  · exact hb k q e
  · have := (h2.lt k e).2; omega
theorem RunAt.put1 {t : ByteArray} {v1 v2 : Value} {cs : Array Value} (h1 : FB 126 B g 10 out v1 cs w) (h2 : FB 126 B g 12 err v2 cs w) (hb : ∀ k, v1.ownBlock = some k → v2.ownBlock ≠ some k) (hc : cs.size = 15) (h5 : S.length = 10) (h6 : ∀ j, j < 10 → cs[j]? = S[j]?) (h7 : cs[14]? = some (.int .i64 st))
    (q : AtB 126 B g 10 t v1 cs w w') : RunAt B g S t err st w' ∧ Kp B g w w' := by
  obtain ⟨v', cs', q1, q2, q3, q4⟩ := q
  exact ⟨⟨cs', v', v2, q1, ⟨h2.lo, h2.ty, q1.blk, by rw [q2.2 12 (by decide) (by decide)]; exact h2.ptr, by rw [q2.2 13 (by decide) (by decide)]; exact h2.buf, own_at h2.own fun k hk => q3.oth k (h2.own.lt k hk).2 (fun e => h2.ne (by rw [hk, e])) (fun e => hb k e hk), h2.nil⟩, new_apart hb q3 h2.own, q2.1.trans hc, h5, fun j hj => (q2.2 j (by omega) (by omega)).trans (h6 j hj), (q2.2 14 (by decide) (by decide)).trans h7⟩, q4, q3.kept h1, _, _, h1.blk⟩
theorem RunAt.put2 {t : ByteArray} {v1 v2 : Value} {cs : Array Value} (h1 : FB 126 B g 10 out v1 cs w) (h2 : FB 126 B g 12 err v2 cs w) (hb : ∀ k, v1.ownBlock = some k → v2.ownBlock ≠ some k) (hc : cs.size = 15) (h5 : S.length = 10) (h6 : ∀ j, j < 10 → cs[j]? = S[j]?) (h7 : cs[14]? = some (.int .i64 st))
    (q : AtB 126 B g 12 t v2 cs w w') : RunAt B g S out t st w' ∧ Kp B g w w' := by
  obtain ⟨v', cs', q1, q2, q3, q4⟩ := q
  have hb' : ∀ k, v2.ownBlock = some k → v1.ownBlock ≠ some k := fun k h e => hb k e h
  exact ⟨⟨cs', v1, v', ⟨h1.lo, h1.ty, q1.blk, by rw [q2.2 10 (by decide) (by decide)]; exact h1.ptr, by rw [q2.2 11 (by decide) (by decide)]; exact h1.buf, own_at h1.own fun k hk => q3.oth k (h1.own.lt k hk).2 (fun e => h1.ne (by rw [hk, e])) (fun e => hb' k e hk), h1.nil⟩, q1, fun k hk e => new_apart hb' q3 h1.own k e hk, q2.1.trans hc, h5, fun j hj => (q2.2 j (by omega) (by omega)).trans (h6 j hj), (q2.2 14 (by decide) (by decide)).trans h7⟩, q4, q3.kept h2, _, _, h2.blk⟩
theorem out_write (h : RunAt B g S out err st w) (s : ByteArray) (hz : out.size + s.size ≤ 1000000000) :
    Calls Tryz.prog 121 #[.pointer (some ⟨g, 10, none⟩), .string s] w fun e w' => (∃ u, e = .returned u) ∧ RunAt B g S (out ++ s) err st w' ∧ Kp B g w w' := by
  obtain ⟨cs, v1, v2, h1, h2, h3, h4, h5, h6, h7⟩ := h
  exact (fwrite_any h1 (by rw [h4]; exact lie10) s hz).mono fun e w' q => ⟨q.1, RunAt.put1 h1 h2 h3 h4 h5 h6 h7 q.2⟩
theorem err_write (h : RunAt B g S out err st w) (s : ByteArray) (hz : err.size + s.size ≤ 1000000000) :
    Calls Tryz.prog 121 #[.pointer (some ⟨g, 12, none⟩), .string s] w fun e w' => (∃ u, e = .returned u) ∧ RunAt B g S out (err ++ s) st w' ∧ Kp B g w w' := by
  obtain ⟨cs, v1, v2, h1, h2, h3, h4, h5, h6, h7⟩ := h
  exact (fwrite_any h2 (by rw [h4]; exact lie12) s hz).mono fun e w' q => ⟨q.1, RunAt.put2 h1 h2 h3 h4 h5 h6 h7 q.2⟩
theorem out_byte (h : RunAt B g S out err st w) (hz : out.size ≤ 1000000000) :
    Calls Tryz.prog 123 #[.pointer (some ⟨g, 10, none⟩), .int .u8 10] w fun e w' => (∃ u, e = .returned u) ∧ RunAt B g S (out ++ ⟨#[10]⟩) err st w' ∧ Kp B g w w' := by
  obtain ⟨cs, v1, v2, h1, h2, h3, h4, h5, h6, h7⟩ := h
  exact (fbyte_any h1 (by rw [h4]; exact lie10) 10 10 rfl hz).mono fun e w' q => ⟨q.1, RunAt.put1 h1 h2 h3 h4 h5 h6 h7 q.2⟩
theorem out_text (h : RunAt B g S out err st w) (hz : out.size ≤ 2000000000) :
    Calls Tryz.prog 55 #[.pointer (some ⟨g, 10, none⟩)] w fun e w' => e = .returned (.string out) ∧ RunAt B g S out err st w' ∧ Kp B g w w' := by
  obtain ⟨cs, v1, v2, h1, h2, h3, h4, h5, h6, h7⟩ := h
  exact (ftext_any h1 hz).mono fun e w' q => ⟨q.1, RunAt.put1 h1 h2 h3 h4 h5 h6 h7 ⟨_, _, q.2.1, Oth.refl _ _, q.2.2⟩⟩
theorem err_text (h : RunAt B g S out err st w) (hz : err.size ≤ 2000000000) :
    Calls Tryz.prog 55 #[.pointer (some ⟨g, 12, none⟩)] w fun e w' => e = .returned (.string err) ∧ RunAt B g S out err st w' ∧ Kp B g w w' := by
  obtain ⟨cs, v1, v2, h1, h2, h3, h4, h5, h6, h7⟩ := h
  exact (ftext_any h2 hz).mono fun e w' q => ⟨q.1, RunAt.put2 h1 h2 h3 h4 h5 h6 h7 ⟨_, _, q.2.1, Oth.refl _ _, q.2.2⟩⟩
theorem kp_set (h : RunAt B g S out err st w) (a : Nat) (x : Value) : Kp B g w (w.setCell ⟨g, a, none⟩ x) := by
  refine ⟨(Below.refl B w).setCell (p := ⟨g, a, none⟩) h.lo.1 x, (Lib.OthersKept.refl 5 (some g) w).setCell ⟨g, a, none⟩ rfl x, ?_⟩
  exact h.kind
/-- The status is put down. -/
theorem RunAt.status (h : RunAt B g S out err st w) (n : Int) : RunAt B g S out err n (w.setCell ⟨g, 14, none⟩ (.int .i64 n)) := by
  obtain ⟨cs, v1, v2, h1, h2, h3, h4, h5, h6, h7⟩ := h
  refine ⟨_, v1, v2, h1.other _ (by decide) (by decide), h2.other _ (by decide) (by decide), h3, by rw [Array.size_setIfInBounds]; exact h4, h5, fun j hj => ?_, ?_⟩
  · rw [Array.getElem?_setIfInBounds, if_neg (by omega)]; exact h6 j hj
  · rw [Array.getElem?_setIfInBounds, if_pos rfl, if_pos (by omega)]
/-- One of the first cells is put down. -/
theorem RunAt.set (h : RunAt B g S out err st w) (j : Nat) (hj : j < 10) (x : Value) : RunAt B g (S.set j x) out err st (w.setCell ⟨g, j, none⟩ x) := by
  obtain ⟨cs, v1, v2, h1, h2, h3, h4, h5, h6, h7⟩ := h
  refine ⟨_, v1, v2, h1.other _ (by omega) (by omega), h2.other _ (by omega) (by omega), h3, by rw [Array.size_setIfInBounds]; exact h4, by rw [List.length_set]; exact h5, fun i hi => ?_, ?_⟩
  · rw [Array.getElem?_setIfInBounds, List.getElem?_set]
    by_cases q : j = i
    · subst q
      rw [if_pos rfl, if_pos rfl, if_pos (by omega), if_pos (by omega)]
    · rw [if_neg q, if_neg q]; exact h6 i hi
  · rw [Array.getElem?_setIfInBounds, if_neg (by omega)]; exact h7
end
end Go.Proofs.YtknfhphhcnbndaaGreatDoor.Z
