/-
  A slice of changes, and one change, that came in. Conditions: none.
-/
import Derived.Test.YtknfhphhcnbndaaGreatDoorGVMade
import Derived.ProofKit
import Derived.SizedLaws
import Derived.OpenShut
import Derived.ShutString
import Derived.Deep.Slices
import Derived.Deep.Fields
set_option linter.unusedVariables false
set_option linter.unusedSimpArgs false
namespace Go.Proofs.YtknfhphhcnbndaaGreatDoor.V
open Go.ChangeShapes Go.WideShapes Go.ChangeAt Go.RowKit Go.Deep

theorem own : ownKnob Tryz.prog.godebug = none := by kernel_rfl
theorem laidOut : laidOutB Tryz.prog = true := by kernel_rfl
theorem cellsInt : Tryz.prog.cellsOf 3 = 1 := by kernel_rfl
theorem cellsI64 : Tryz.prog.cellsOf 2 = 1 := by kernel_rfl
theorem cellsStr : Tryz.prog.cellsOf 9 = 1 := by kernel_rfl
theorem cellsChange : Tryz.prog.cellsOf 89 = 8 := by kernel_rfl

structure WideC (c : Chg) : Prop where
  name : c.name.size ≤ 9223372036854775807
  text : c.text.size ≤ 9223372036854775807
  lo : -9223372036854775808 ≤ c.n
  hi : c.n ≤ 9223372036854775807
  a : -9223372036854775808 ≤ c.a ∧ c.a ≤ 9223372036854775807
  b : -9223372036854775808 ≤ c.b ∧ c.b ≤ 9223372036854775807

theorem le_max_of {n : Nat} (h : n ≤ maxLen) : n ≤ 9223372036854775807 := by unfold maxLen at h; exact h

set_option maxRecDepth 100000 in
theorem chg_of_cells {H : Type} {enc : TypeId × Value → H} {W : World} {base : Nat} {sp : Nat → Bool} {held : Bool} {fuel : Nat} {cs : List Value} {y : DataW H × List MemPlace}
    (h : DataW.trod enc Tryz.prog W base sp held fuel 89 cs = some y) : ∃ c : Chg, cs = chgL c ∧ WideC c := by
  obtain ⟨ys, n, _, _, hlen, hyl, hf⟩ := DataW.trod_struct Tryz.underlying89 h
  rw [cellsChange] at hlen
  have f0 := hf 0 _ rfl
  have f1 := hf 1 _ rfl
  have f2 := hf 2 _ rfl
  have f3 := hf 3 _ rfl
  have f4 := hf 4 _ rfl
  have f5 := hf 5 _ rfl
  have f6 := hf 6 _ rfl
  have f7 := hf 7 _ rfl
  clear hf
  match cs, hlen, ys, hyl with
  | [c0, c1, c2, c3, c4, c5, c6, c7], _, [y0, y1, y2, y3, y4, y5, y6, y7], _ =>
    simp [cellsInt, cellsI64, cellsStr] at f0 f1 f2 f3 f4 f5 f6 f7
    obtain ⟨n0, e0, _, _⟩ := DataW.trod_int Tryz.underlying3 f0
    obtain ⟨n1, e1, _, _⟩ := DataW.trod_int Tryz.underlying3 f1
    obtain ⟨n2, e2, _, _⟩ := DataW.trod_int Tryz.underlying3 f2
    obtain ⟨s3, e3, _, g3⟩ := DataW.trod_string Tryz.underlying9 f3
    obtain ⟨s4, e4, _, g4⟩ := DataW.trod_string Tryz.underlying9 f4
    obtain ⟨n5, e5, _, g5⟩ := DataW.trod_int Tryz.underlying3 f5
    obtain ⟨n6, e6, _, g6⟩ := DataW.trod_int Tryz.underlying3 f6
    obtain ⟨n7, e7, _, g7⟩ := DataW.trod_int Tryz.underlying2 f7
    simp at e0 e1 e2 e3 e4 e5 e6 e7
    have b := bounds_i64 g7
    refine ⟨⟨n0, n1, n2, s3, s4, n5, n6, n7⟩, by rw [e0, e1, e2, e3, e4, e5, e6, e7]; rfl, WideC.mk (le_max_of g3) (le_max_of g4) b.1 b.2 (bounds_i64 g5) (bounds_i64 g6)⟩

theorem changes_of {H : Type} {enc : TypeId × Value → H} {W : World} {base : Nat} {sp : Nat → Bool} {held : Bool} {a : Option Addr} {len cap : Nat} {d : DataW H} {p : List MemPlace}
    (h : DataW.Trod enc Tryz.prog W base sp held 22 (.slice a len cap) d p) :
    ∃ cs : List Chg, cs.length = len ∧ IsChgs W a cs ∧ (∀ c ∈ cs, WideC c) ∧ len ≤ 9223372036854775807 := by
  obtain ⟨fuel, hf⟩ := h
  rcases open_slice Tryz.underlying22 hf with ⟨hcs, _⟩ | ⟨x, l, c, m, n, D, Pl, hcs, _, hl, hm, hmm, _, hx⟩
  · simp [Value.cells] at hcs
    obtain ⟨rfl, rfl, rfl⟩ := hcs
    exact ⟨[], rfl, .inl rfl, fun c hc => (by cases hc), by omega⟩
  · simp [Value.cells] at hcs
    obtain ⟨rfl, rfl, rfl⟩ := hcs
    unfold maxLen at hm
    have hlm : len ≤ m := by rw [hmm]; split <;> omega
    rw [cellsChange] at hx
    have each : ∀ i, i < len → ∃ c : Chg, WideC c ∧ ∀ j v, (chgL c)[j]? = some v → W.cell? (x.add (i * 8 + j)) = some v := by
      intro i hi
      obtain ⟨cs', hc, ht⟩ := hx i (by omega)
      obtain ⟨c, rfl, hw⟩ := chg_of_cells ht
      refine ⟨c, hw, fun j v hj => ?_⟩
      obtain ⟨_, _, hat⟩ := World.cells?_some hc
      have hj8 : j < 8 := (List.getElem?_eq_some_iff.1 hj).1
      have := hat j hj8
      rw [Go.Deep.add_add] at this
      rw [this]
      exact hj
    classical
    by_cases h0 : len = 0
    · exact ⟨[], h0.symm, .inl rfl, fun c hc => (by cases hc), by omega⟩
    · have hin : Inhabited Chg := ⟨⟨0, 0, 0, ByteArray.empty, ByteArray.empty, 0, 0, 0⟩⟩
      obtain ⟨f, hf⟩ := choose_lt each
      obtain ⟨b, off, spot⟩ := x
      have hspot : spot = none := by
        have := (hf 0 (by omega)).2 0 _ rfl
        simpa [Addr.add] using World.cell?_spot this
      subst hspot
      refine ⟨(List.range len).map f, by simp, .inr ⟨b, off, rfl, fun k c hk => ?_⟩, fun c hc => ?_, by omega⟩
      · rw [List.getElem?_map] at hk
        obtain ⟨k', hk', rfl⟩ := Option.map_eq_some_iff.1 hk
        have hkl : k < len := by have := (List.getElem?_eq_some_iff.1 hk').1; simpa using this
        rw [List.getElem?_range hkl] at hk'
        obtain rfl := Option.some.inj hk'
        intro j v hj
        have := (hf k hkl).2 j v hj
        rw [add_plain] at this
        rw [Nat.add_assoc]
        exact this
      · obtain ⟨k, hk, rfl⟩ := List.mem_map.1 hc
        exact (hf k (by simpa using hk)).1
end Go.Proofs.YtknfhphhcnbndaaGreatDoor.V
