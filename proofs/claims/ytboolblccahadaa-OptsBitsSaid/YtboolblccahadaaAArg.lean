/-
  Slices of specs, options and texts that came in; that the library's variable holds some number. Conditions: none.
-/
import Derived.Test.YtboolblccahadaaAMem
import Derived.Test.YtboolblccahadaaShelf
import Derived.ProofKit
import Derived.SizedLaws
import Derived.OpenShut
import Derived.ShutString
import Derived.Deep.Slices
import Derived.Deep.Fields
import Derived.HandedShaped
import Derived.Shelf.Vars
set_option linter.unusedVariables false
namespace Go.Proofs.Ytboolblccahadaa.A
open Go.Proofs.Ytboolblccahadaa.B
open Go.ChangeShapes Go.WideShapes Go.ChangeAt Go.RowKit Go.Deep

theorem own : ownKnob Try.prog.godebug = none := by kernel_rfl
theorem laidOut : laidOutB Try.prog = true := by kernel_rfl
theorem cellsBool : Try.prog.cellsOf 4 = 1 := by kernel_rfl
theorem cellsByte : Try.prog.cellsOf 5 = 1 := by kernel_rfl
theorem cellsStr : Try.prog.cellsOf 9 = 1 := by kernel_rfl
theorem cellsSp : Try.prog.cellsOf 42 = 3 := by kernel_rfl
theorem cellsOp : Try.prog.cellsOf 35 = 2 := by kernel_rfl
theorem le_max_of {n : Nat} (h : n ≤ maxLen) : n ≤ 9223372036854775807 := by unfold maxLen at h; exact h
structure WideS (c : Sp) : Prop where
  long : c.long.size ≤ 9223372036854775807
  lo : 0 ≤ c.letter
  hi : c.letter < 256
structure WideO (c : Op) : Prop where
  value : c.value.size ≤ 9223372036854775807
  lo : 0 ≤ c.letter
  hi : c.letter < 256

set_option maxRecDepth 100000 in
theorem sp_of_cells {H : Type} {enc : TypeId × Value → H} {W : World} {base : Nat} {sp : Nat → Bool} {held : Bool} {fuel : Nat} {cs : List Value} {y : DataW H × List MemPlace}
    (h : DataW.trod enc Try.prog W base sp held fuel 42 cs = some y) : ∃ c : Sp, cs = spC c ∧ WideS c := by
  obtain ⟨ys, n, _, _, hlen, hyl, hf⟩ := DataW.trod_struct Try.underlying42 h
  rw [cellsSp] at hlen
  have f0 := hf 0 _ rfl
  have f1 := hf 1 _ rfl
  have f2 := hf 2 _ rfl
  clear hf
  match cs, hlen, ys, hyl with
  | [c0, c1, c2], _, [y0, y1, y2], _ =>
    simp [cellsByte, cellsStr, cellsBool] at f0 f1 f2
    obtain ⟨n0, e0, _, g0⟩ := DataW.trod_int Try.underlying5 f0
    obtain ⟨s1, e1, _, g1⟩ := DataW.trod_string Try.underlying9 f1
    obtain ⟨b2, e2, _⟩ := DataW.trod_bool Try.underlying4 f2
    simp at e0 e1 e2
    have b := bounds_u8 g0
    exact ⟨⟨n0, s1, b2⟩, by rw [e0, e1, e2]; rfl, ⟨le_max_of g1, by have := b.1; show 0 ≤ n0; omega, by have := b.2; show n0 < 256; omega⟩⟩
set_option maxRecDepth 100000 in
theorem op_of_cells {H : Type} {enc : TypeId × Value → H} {W : World} {base : Nat} {sp : Nat → Bool} {held : Bool} {fuel : Nat} {cs : List Value} {y : DataW H × List MemPlace}
    (h : DataW.trod enc Try.prog W base sp held fuel 35 cs = some y) : ∃ c : Op, cs = opC c ∧ WideO c := by
  obtain ⟨ys, n, _, _, hlen, hyl, hf⟩ := DataW.trod_struct Try.underlying35 h
  rw [cellsOp] at hlen
  have f0 := hf 0 _ rfl
  have f1 := hf 1 _ rfl
  clear hf
  match cs, hlen, ys, hyl with
  | [c0, c1], _, [y0, y1], _ =>
    simp [cellsByte, cellsStr] at f0 f1
    obtain ⟨n0, e0, _, g0⟩ := DataW.trod_int Try.underlying5 f0
    obtain ⟨s1, e1, _, g1⟩ := DataW.trod_string Try.underlying9 f1
    simp at e0 e1
    have b := bounds_u8 g0
    exact ⟨⟨n0, s1⟩, by rw [e0, e1]; rfl, ⟨le_max_of g1, by have := b.1; show 0 ≤ n0; omega, by have := b.2; show n0 < 256; omega⟩⟩
theorem tx_of_cells {H : Type} {enc : TypeId × Value → H} {W : World} {base : Nat} {sp : Nat → Bool} {held : Bool} {fuel : Nat} {cs : List Value} {y : DataW H × List MemPlace}
    (h : DataW.trod enc Try.prog W base sp held fuel 9 cs = some y) : ∃ c : ByteArray, cs = txC c ∧ c.size ≤ 9223372036854775807 := by
  obtain ⟨s1, e1, _, g1⟩ := DataW.trod_string Try.underlying9 h
  exact ⟨s1, e1, le_max_of g1⟩

theorem row_of {α : Type} [Inhabited α] {f : α → List Value} {k : Nat} {Wide : α → Prop} {H : Type} {enc : TypeId × Value → H} {W : World} {base : Nat} {sp : Nat → Bool} {held : Bool} {a : Option Addr} {len cap : Nat} {d : DataW H} {p : List MemPlace} {t e : TypeId}
    (ht : Try.prog.underlying t = some (.slice e)) (hk : Try.prog.cellsOf e = k) (hk0 : 0 < k) (hlen : ∀ x, (f x).length = k)
    (one : ∀ (fuel : Nat) (cs : List Value) (y : DataW H × List MemPlace), DataW.trod enc Try.prog W base sp held fuel e cs = some y → ∃ c, cs = f c ∧ Wide c)
    (h : DataW.Trod enc Try.prog W base sp held t (.slice a len cap) d p) :
    ∃ l : List α, l.length = len ∧ RowL k f W a l ∧ (∀ c ∈ l, Wide c) ∧ len ≤ cap ∧ cap ≤ maxLen ∧ (a = none → cap = 0) := by
  obtain ⟨fuel, hf⟩ := h
  rcases open_slice ht hf with ⟨hcs, _⟩ | ⟨x, l, c, m, n, D, Pl, hcs, _, hl, hm, hmm, _, hx⟩
  · simp [Value.cells] at hcs
    obtain ⟨rfl, rfl, rfl⟩ := hcs
    exact ⟨[], rfl, .inl rfl, fun c hc => (by cases hc), by omega, by unfold maxLen; omega, fun _ => rfl⟩
  · simp [Value.cells] at hcs
    obtain ⟨rfl, rfl, rfl⟩ := hcs
    have hlm : len ≤ m := by rw [hmm]; split <;> omega
    rw [hk] at hx
    have each : ∀ i, i < len → ∃ c : α, Wide c ∧ ∀ j v, (f c)[j]? = some v → W.cell? (x.add (i * k + j)) = some v := by
      intro i hi
      obtain ⟨cs', hc, ht⟩ := hx i (by omega)
      obtain ⟨c, rfl, hw⟩ := one _ _ _ ht
      refine ⟨c, hw, fun j v hj => ?_⟩
      obtain ⟨_, _, hat⟩ := World.cells?_some hc
      have hj4 : j < k := by rw [← hlen c]; exact (List.getElem?_eq_some_iff.1 hj).1
      have := hat j hj4
      rw [Go.Deep.add_add] at this
      rw [this]
      exact hj
    classical
    by_cases h0 : len = 0
    · exact ⟨[], h0.symm, .inl rfl, fun c hc => (by cases hc), hl, hm, fun q => by cases q⟩
    · obtain ⟨g, hg⟩ := choose_lt each
      obtain ⟨b, off, spot⟩ := x
      have first : ∃ v, (f (g 0))[0]? = some v := ⟨_, List.getElem?_eq_getElem (by rw [hlen]; exact hk0)⟩
      obtain ⟨v0, hv0⟩ := first
      have hspot : spot = none := by
        have := (hg 0 (by omega)).2 0 _ hv0
        rw [Nat.zero_mul] at this
        simpa [Addr.add] using World.cell?_spot this
      subst hspot
      refine ⟨(List.range len).map g, by simp, .inr ⟨b, off, rfl, ?_, fun i c hi => ?_⟩, fun c hc => ?_, hl, hm, fun q => by cases q⟩
      · have := (hg 0 (by omega)).2 0 _ hv0
        rw [add_plain] at this
        exact cell_lt this
      · rw [List.getElem?_map] at hi
        obtain ⟨i', hi', rfl⟩ := Option.map_eq_some_iff.1 hi
        have hil : i < len := by have := (List.getElem?_eq_some_iff.1 hi').1; simpa using this
        rw [List.getElem?_range hil] at hi'
        obtain rfl := Option.some.inj hi'
        intro j v hj
        have := (hg i hil).2 j v hj
        rw [add_plain] at this
        rw [Nat.add_assoc]
        exact this
      · obtain ⟨i, hi, rfl⟩ := List.mem_map.1 hc
        exact (hg i (by simpa using hi)).1
instance : Inhabited Sp := ⟨noSp⟩
instance : Inhabited Op := ⟨⟨0, ByteArray.empty⟩⟩
theorem specs_of {H : Type} {enc : TypeId × Value → H} {W : World} {base : Nat} {sp : Nat → Bool} {held : Bool} {a : Option Addr} {len cap : Nat} {d : DataW H} {p : List MemPlace}
    (h : DataW.Trod enc Try.prog W base sp held 22 (.slice a len cap) d p) : ∃ l : List Sp, l.length = len ∧ SpsL W a l ∧ (∀ c ∈ l, WideS c) ∧ len ≤ cap ∧ cap ≤ maxLen ∧ (a = none → cap = 0) :=
  row_of Try.underlying22 cellsSp (by decide) spC_len (fun _ _ _ h => sp_of_cells h) h
theorem ops_of {H : Type} {enc : TypeId × Value → H} {W : World} {base : Nat} {sp : Nat → Bool} {held : Bool} {a : Option Addr} {len cap : Nat} {d : DataW H} {p : List MemPlace}
    (h : DataW.Trod enc Try.prog W base sp held 26 (.slice a len cap) d p) : ∃ l : List Op, l.length = len ∧ RowL 2 opC W a l ∧ (∀ c ∈ l, WideO c) ∧ len ≤ cap ∧ cap ≤ maxLen ∧ (a = none → cap = 0) :=
  row_of Try.underlying26 cellsOp (by decide) opC_len (fun _ _ _ h => op_of_cells h) h
theorem txts_of {H : Type} {enc : TypeId × Value → H} {W : World} {base : Nat} {sp : Nat → Bool} {held : Bool} {a : Option Addr} {len cap : Nat} {d : DataW H} {p : List MemPlace}
    (h : DataW.Trod enc Try.prog W base sp held 23 (.slice a len cap) d p) : ∃ l : List ByteArray, l.length = len ∧ TxtL W a l ∧ (∀ c ∈ l, c.size ≤ 9223372036854775807) ∧ len ≤ cap ∧ cap ≤ maxLen ∧ (a = none → cap = 0) :=
  row_of Try.underlying23 cellsStr (by decide) txC_len (fun _ _ _ h => tx_of_cells h) h
theorem max_of {W : World} (h : W.ShapedOpen Try.prog) : MaxT W :=
  cell_of_shapedOpen_int (zero := #[.int .i64 0]) h (of_decide_eq_true (by kernel_rfl)) (by kernel_rfl) rfl (by kernel_rfl) (by kernel_rfl) Try.underlying3
end Go.Proofs.Ytboolblccahadaa.A
