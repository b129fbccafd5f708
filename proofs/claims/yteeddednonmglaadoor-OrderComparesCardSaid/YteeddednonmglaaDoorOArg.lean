/-
  A slice of keys, a key, three keys and two bools that came in. Conditions: none.
-/
import Derived.Test.YteeddednonmglaaDoorCards
import Derived.Test.YteeddednonmglaaDoorTie
import Derived.Test.YteeddednonmglaaDoorOKeys
import Derived.ProofKit
import Derived.SizedLaws
import Derived.OpenShut
import Derived.ShutString
import Derived.ChangeOld
import Derived.Below
import Derived.LaidMore
import Derived.ChangeSame
import Derived.Deep.Slices
import Derived.Deep.Fields
import Derived.Deep.DeepHandedRow
import Derived.Deep.DeepWitnessRowRef
import Derived.Stop.LaidErr
import Derived.Lay
set_option linter.unusedVariables false
namespace Go.Proofs.YteeddednonmglaaDoor
open Go.ChangeShapes Go.WideShapes Go.ChangeAt Go.RowKit Go.Deep

theorem own : ownKnob Tryd.prog.godebug = none := by kernel_rfl
theorem laidOut : laidOutB Tryd.prog = true := by kernel_rfl
theorem cellsBool : Tryd.prog.cellsOf 4 = 1 := by kernel_rfl
theorem cellsI64 : Tryd.prog.cellsOf 2 = 1 := by kernel_rfl
theorem cellsStr : Tryd.prog.cellsOf 9 = 1 := by kernel_rfl
theorem cellsKey : Tryd.prog.cellsOf 26 = 4 := by kernel_rfl
theorem cells3Key : Tryd.prog.cellsOf 36 = 12 := by kernel_rfl
theorem cellsTwo : Tryd.prog.cellsOf 34 = 2 := by kernel_rfl
theorem cell_lt {w : World} {a : Addr} {v : Value} (h : w.cell? a = some v) : a.block < w.heap.size := by
  apply Classical.byContradiction
  intro hn
  have : w.heap[a.block]? = none := Array.getElem?_eq_none (by omega)
  unfold World.cell? at h
  simp [this] at h
structure WideK (c : Ky) : Prop where
  name : c.name.size ≤ 9223372036854775807
theorem le_max_of {n : Nat} (h : n ≤ maxLen) : n ≤ 9223372036854775807 := by unfold maxLen at h; exact h

set_option maxRecDepth 100000 in
theorem key_of_cells {H : Type} {enc : TypeId × Value → H} {W : World} {base : Nat} {sp : Nat → Bool} {held : Bool} {fuel : Nat} {cs : List Value} {y : DataW H × List MemPlace}
    (h : DataW.trod enc Tryd.prog W base sp held fuel 26 cs = some y) : ∃ c : Ky, cs = kyL c ∧ WideK c := by
  obtain ⟨ys, n, _, _, hlen, hyl, hf⟩ := DataW.trod_struct Tryd.underlying26 h
  rw [cellsKey] at hlen
  have f0 := hf 0 _ rfl
  have f1 := hf 1 _ rfl
  have f2 := hf 2 _ rfl
  have f3 := hf 3 _ rfl
  clear hf
  match cs, hlen, ys, hyl with
  | [c0, c1, c2, c3], _, [y0, y1, y2, y3], _ =>
    simp [cellsI64, cellsStr, cellsBool] at f0 f1 f2 f3
    obtain ⟨s0, e0, _, g0⟩ := DataW.trod_string Tryd.underlying9 f0
    obtain ⟨n1, e1, _, _⟩ := DataW.trod_int Tryd.underlying2 f1
    obtain ⟨n2, e2, _, _⟩ := DataW.trod_int Tryd.underlying2 f2
    obtain ⟨b3, e3, _⟩ := DataW.trod_bool Tryd.underlying4 f3
    simp at e0 e1 e2 e3
    exact ⟨⟨s0, n1, n2, b3⟩, by rw [e0, e1, e2, e3]; rfl, ⟨le_max_of g0⟩⟩

theorem keys_of {H : Type} {enc : TypeId × Value → H} {W : World} {base : Nat} {sp : Nat → Bool} {held : Bool} {a : Option Addr} {len cap : Nat} {d : DataW H} {p : List MemPlace}
    (h : DataW.Trod enc Tryd.prog W base sp held 22 (.slice a len cap) d p) :
    ∃ cs : List Ky, cs.length = len ∧ IsKeys W a cs ∧ (∀ c ∈ cs, WideK c) ∧ len ≤ 9223372036854775807 := by
  obtain ⟨fuel, hf⟩ := h
  rcases open_slice Tryd.underlying22 hf with ⟨hcs, _⟩ | ⟨x, l, c, m, n, D, Pl, hcs, _, hl, hm, hmm, _, hx⟩
  · simp [Value.cells] at hcs
    obtain ⟨rfl, rfl, rfl⟩ := hcs
    exact ⟨[], rfl, .inl rfl, fun c hc => (by cases hc), by omega⟩
  · simp [Value.cells] at hcs
    obtain ⟨rfl, rfl, rfl⟩ := hcs
    unfold maxLen at hm
    have hlm : len ≤ m := by rw [hmm]; split <;> omega
    rw [cellsKey] at hx
    have each : ∀ i, i < len → ∃ c : Ky, WideK c ∧ ∀ j v, (kyL c)[j]? = some v → W.cell? (x.add (i * 4 + j)) = some v := by
      intro i hi
      obtain ⟨cs', hc, ht⟩ := hx i (by omega)
      obtain ⟨c, rfl, hw⟩ := key_of_cells ht
      refine ⟨c, hw, fun j v hj => ?_⟩
      obtain ⟨_, _, hat⟩ := World.cells?_some hc
      have hj4 : j < 4 := (List.getElem?_eq_some_iff.1 hj).1
      have := hat j hj4
      rw [Go.Deep.add_add] at this
      rw [this]
      exact hj
    classical
    by_cases h0 : len = 0
    · exact ⟨[], h0.symm, .inl rfl, fun c hc => (by cases hc), by omega⟩
    · have hin : Inhabited Ky := ⟨noKy⟩
      obtain ⟨f, hf⟩ := choose_lt each
      obtain ⟨b, off, spot⟩ := x
      have hspot : spot = none := by
        have := (hf 0 (by omega)).2 0 _ rfl
        simpa [Addr.add] using World.cell?_spot this
      subst hspot
      refine ⟨(List.range len).map f, by simp, .inr ⟨b, off, rfl, ?_, fun k c hk => ?_⟩, fun c hc => ?_, by omega⟩
      · have := (hf 0 (by omega)).2 0 _ rfl
        rw [add_plain] at this
        exact cell_lt this
      · rw [List.getElem?_map] at hk
        obtain ⟨k', hk', rfl⟩ := Option.map_eq_some_iff.1 hk
        have hkl : k < len := by have := (List.getElem?_eq_some_iff.1 hk').1; simpa using this
        rw [List.getElem?_range hkl] at hk'
        obtain rfl := Option.some.inj hk'
        intro j v hj
        have := (hf k hkl).2 j v hj
        rw [add_plain] at this
        rw [Nat.add_assoc]
        exact this
      · obtain ⟨k, hk, rfl⟩ := List.mem_map.1 hc
        exact (hf k (by simpa using hk)).1

theorem key_of {H : Type} {enc : TypeId × Value → H} {W : World} {r : Reach} {b0 base : Nat} {sp : Nat → Bool} {held : Bool} {v : Value} {x : DataW H} {p : List MemPlace}
    (hv : Value.okWide Tryd.prog W r b0 26 v) (h : DataW.Trod enc Tryd.prog W base sp held 26 v x p) :
    ∃ c : Ky, v = kyV c ∧ WideK c := by
  obtain ⟨cs, rfl, hsz⟩ := okWide_struct Tryd.underlying26 hv
  obtain ⟨fuel, h⟩ := h
  obtain ⟨c, hc, hw⟩ := key_of_cells h
  refine ⟨c, ?_, hw⟩
  have : cs.toList = kyL c := by simpa [Value.cells] using hc
  obtain ⟨l⟩ := cs
  simp at this
  rw [this]
  rfl
theorem okWide_arr {P : Program} {w : World} {r : Reach} {base : Nat} {t e : TypeId} {n : Nat} {v : Value} (ht : P.underlying t = some (.array n e)) (h : Value.okWide P w r base t v) : ∃ cs, v = .agg cs ∧ cs.size = P.cellsOf t := by
  simp only [Value.okWide, ht] at h
  obtain ⟨cs, h1, h2, _⟩ := h
  exact ⟨cs, h1, h2⟩
theorem keys3_of {H : Type} {enc : TypeId × Value → H} {W : World} {r : Reach} {b0 base : Nat} {sp : Nat → Bool} {held : Bool} {v : Value} {x : DataW H} {p : List MemPlace}
    (hv : Value.okWide Tryd.prog W r b0 36 v) (h : DataW.Trod enc Tryd.prog W base sp held 36 v x p) :
    ∃ a b c : Ky, v = .agg #[.string a.name, .int .i64 a.size, .int .i64 a.time, .bool a.dir, .string b.name, .int .i64 b.size, .int .i64 b.time, .bool b.dir, .string c.name, .int .i64 c.size, .int .i64 c.time, .bool c.dir] ∧ WideK a ∧ WideK b ∧ WideK c := by
  obtain ⟨cs, rfl, hsz⟩ := okWide_arr Tryd.underlying36 hv
  obtain ⟨fuel, h⟩ := h
  obtain ⟨xs, m, _, _, _, hxl, ha⟩ := DataW.trod_array Tryd.underlying36 h
  rw [cells3Key] at hsz
  have a0 := ha 0 (by decide)
  have a1 := ha 1 (by decide)
  have a2 := ha 2 (by decide)
  clear ha
  obtain ⟨l⟩ := cs
  match l, hsz, xs, hxl with
  | [c0, c1, c2, c3, c4, c5, c6, c7, c8, c9, c10, c11], _, [y0, y1, y2], _ =>
    simp [Value.cells, cellsKey] at a0 a1 a2
    obtain ⟨k0, e0, w0⟩ := key_of_cells a0
    obtain ⟨k1, e1, w1⟩ := key_of_cells a1
    obtain ⟨k2, e2, w2⟩ := key_of_cells a2
    unfold kyL at e0 e1 e2
    simp at e0 e1 e2
    obtain ⟨rfl, rfl, rfl, rfl⟩ := e0
    obtain ⟨rfl, rfl, rfl, rfl⟩ := e1
    obtain ⟨rfl, rfl, rfl, rfl⟩ := e2
    exact ⟨k0, k1, k2, rfl, w0, w1, w2⟩
theorem bools2_of {H : Type} {enc : TypeId × Value → H} {W : World} {r : Reach} {b0 base : Nat} {sp : Nat → Bool} {held : Bool} {v : Value} {x : DataW H} {p : List MemPlace}
    (hv : Value.okWide Tryd.prog W r b0 34 v) (h : DataW.Trod enc Tryd.prog W base sp held 34 v x p) :
    ∃ a b : Bool, v = .agg #[.bool a, .bool b] := by
  obtain ⟨cs, rfl, hsz⟩ := okWide_arr Tryd.underlying34 hv
  obtain ⟨fuel, h⟩ := h
  obtain ⟨xs, m, _, _, _, hxl, ha⟩ := DataW.trod_array Tryd.underlying34 h
  rw [cellsTwo] at hsz
  have a0 := ha 0 (by decide)
  have a1 := ha 1 (by decide)
  clear ha
  obtain ⟨l⟩ := cs
  match l, hsz, xs, hxl with
  | [c0, c1], _, [y0, y1], _ =>
    simp [Value.cells, cellsBool] at a0 a1
    obtain ⟨n0, e0, _⟩ := DataW.trod_bool Tryd.underlying4 a0
    obtain ⟨n1, e1, _⟩ := DataW.trod_bool Tryd.underlying4 a1
    simp at e0 e1
    exact ⟨n0, n1, by rw [e0, e1]⟩
end Go.Proofs.YteeddednonmglaaDoor
