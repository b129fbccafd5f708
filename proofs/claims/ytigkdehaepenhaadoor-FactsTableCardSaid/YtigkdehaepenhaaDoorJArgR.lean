/-
  Rows of devices that came in as a slice. Conditions: what came in lies in memory.
-/
import Derived.Test.YtigkdehaepenhaaDoorJTabD
import Derived.Test.YtigkdehaepenhaaDoorJTabM
import Derived.Test.YtigkdehaepenhaaDoorRow
set_option linter.unusedVariables false
set_option linter.unusedSimpArgs false
namespace Go.Proofs.YtigkdehaepenhaaDoor.J
open Go.Proofs.YtigkdehaepenhaaDoor.B
open Go.ChangeShapes Go.WideShapes Go.ChangeAt Go.RowKit Go.Deep

theorem cellsI64 : Tryd.prog.cellsOf 2 = 1 := by kernel_rfl
theorem cellsRw : Tryd.prog.cellsOf 25 = 6 := by kernel_rfl
structure WideR (r : Rw) : Prop where
  dev : I64 r.dev
  all : I64 r.all
  used : I64 r.used
  left : I64 r.left
  pct : I64 r.pct
  at_ : r.at_.size ≤ 9223372036854775807
theorem le_max_of {n : Nat} (h : n ≤ maxLen) : n ≤ 9223372036854775807 := by unfold maxLen at h; exact h
set_option maxRecDepth 100000 in
theorem rw_of_cells {H : Type} {enc : TypeId × Value → H} {W : World} {base : Nat} {sp : Nat → Bool} {held : Bool} {fuel : Nat} {cs : List Value} {y : DataW H × List MemPlace}
    (h : DataW.trod enc Tryd.prog W base sp held fuel 25 cs = some y) : ∃ r : Rw, cs = rwC r ∧ WideR r := by
  obtain ⟨ys, n, _, _, hlen, hyl, hf⟩ := DataW.trod_struct Tryd.underlying25 h
  rw [cellsRw] at hlen
  have f0 := hf 0 _ rfl
  have f1 := hf 1 _ rfl
  have f2 := hf 2 _ rfl
  have f3 := hf 3 _ rfl
  have f4 := hf 4 _ rfl
  have f5 := hf 5 _ rfl
  clear hf
  match cs, hlen, ys, hyl with
  | [c0, c1, c2, c3, c4, c5], _, [y0, y1, y2, y3, y4, y5], _ =>
    simp [cellsInt, cellsI64, cellsStr] at f0 f1 f2 f3 f4 f5
    obtain ⟨n0, e0, _, g0⟩ := DataW.trod_int Tryd.underlying3 f0
    obtain ⟨n1, e1, _, g1⟩ := DataW.trod_int Tryd.underlying2 f1
    obtain ⟨n2, e2, _, g2⟩ := DataW.trod_int Tryd.underlying2 f2
    obtain ⟨n3, e3, _, g3⟩ := DataW.trod_int Tryd.underlying2 f3
    obtain ⟨n4, e4, _, g4⟩ := DataW.trod_int Tryd.underlying2 f4
    obtain ⟨s5, e5, _, g5⟩ := DataW.trod_string Tryd.underlying9 f5
    simp at e0 e1 e2 e3 e4 e5
    exact ⟨⟨n0, n1, n2, n3, n4, s5⟩, by rw [e0, e1, e2, e3, e4, e5]; rfl, ⟨bounds_i64 g0, bounds_i64 g1, bounds_i64 g2, bounds_i64 g3, bounds_i64 g4, le_max_of g5⟩⟩
theorem cell_block {w : World} {a : Addr} {v : Value} (h : w.cell? a = some v) : a.block < w.heap.size := by
  apply Classical.byContradiction
  intro hn
  have : w.heap[a.block]? = none := Array.getElem?_eq_none (by omega)
  unfold World.cell? at h
  simp [this] at h
theorem rows_of {H : Type} {enc : TypeId × Value → H} {W : World} {base : Nat} {sp : Nat → Bool} {held : Bool} {a : Option Addr} {len cap : Nat} {d : DataW H} {p : List MemPlace}
    (h : DataW.Trod enc Tryd.prog W base sp held 22 (.slice a len cap) d p) :
    ∃ es : List Rw, es.length = len ∧ RowL 6 rwC W a es ∧ (∀ e ∈ es, WideR e) ∧ len ≤ 9223372036854775807 := by
  obtain ⟨fuel, hf⟩ := h
  rcases open_slice Tryd.underlying22 hf with ⟨hcs, _⟩ | ⟨x, l, c, m, n, D, Pl, hcs, _, hl, hm, hmm, _, hx⟩
  · simp [Value.cells] at hcs
    obtain ⟨rfl, rfl, rfl⟩ := hcs
    exact ⟨[], rfl, .inl rfl, fun c hc => (by cases hc), by omega⟩
  · simp [Value.cells] at hcs
    obtain ⟨rfl, rfl, rfl⟩ := hcs
    unfold maxLen at hm
    have hlm : len ≤ m := by rw [hmm]; split <;> omega
    rw [cellsRw] at hx
    have each : ∀ i, i < len → ∃ c : Rw, WideR c ∧ ∀ j v, (rwC c)[j]? = some v → W.cell? (x.add (i * 6 + j)) = some v := by
      intro i hi
      obtain ⟨cs', hc, ht⟩ := hx i (by omega)
      obtain ⟨c, rfl, hw⟩ := rw_of_cells ht
      refine ⟨c, hw, fun j v hj => ?_⟩
      obtain ⟨_, _, hat⟩ := World.cells?_some hc
      have hj8 : j < 6 := (List.getElem?_eq_some_iff.1 hj).1
      have := hat j hj8
      rw [Go.Deep.add_add] at this
      rw [this]
      exact hj
    classical
    by_cases h0 : len = 0
    · exact ⟨[], h0.symm, .inl rfl, fun c hc => (by cases hc), by omega⟩
    · have hin : Inhabited Rw := ⟨⟨0, 0, 0, 0, 0, ByteArray.empty⟩⟩
      obtain ⟨f, hf⟩ := choose_lt each
      obtain ⟨b, off, spot⟩ := x
      have hspot : spot = none := by
        have := (hf 0 (by omega)).2 0 _ rfl
        simpa [Addr.add] using World.cell?_spot this
      subst hspot
      have hat : ∀ k, k < len → ∀ j v, (rwC (f k))[j]? = some v → W.cell? ⟨b, off + k * 6 + j, none⟩ = some v := fun k hk j v hj => by
        have := (hf k hk).2 j v hj
        rw [add_plain] at this
        rw [Nat.add_assoc]
        exact this
      have hlt : b < W.heap.size := cell_block (hat 0 (by omega) 0 _ rfl)
      refine ⟨(List.range len).map f, by simp, .inr ⟨b, off, rfl, hlt, fun k c hk => ?_⟩, fun c hc => ?_, by omega⟩
      · rw [List.getElem?_map] at hk
        obtain ⟨k', hk', rfl⟩ := Option.map_eq_some_iff.1 hk
        have hkl : k < len := by have := (List.getElem?_eq_some_iff.1 hk').1; simpa using this
        rw [List.getElem?_range hkl] at hk'
        obtain rfl := Option.some.inj hk'
        exact fun j v hj => hat k hkl j v hj
      · obtain ⟨k, hk, rfl⟩ := List.mem_map.1 hc
        exact (hf k (by simpa using hk)).1
end Go.Proofs.YtigkdehaepenhaaDoor.J
