/-
  What a slice of texts that came in gives a walk: nil or empty, or a row of texts. Conditions: none.
-/
import Derived.Test.YtemnbleacjpfcaaDoorWMost
import Derived.Test.YtemnbleacjpfcaaDoorWLaid
import Derived.SliceStrings
namespace Go.Proofs.YtemnbleacjpfcaaDoor.W
open Go.ChangeShapes Go.WideShapes Go.ChangeAt Go.RowKit Go.Deep

theorem cellsString : Tryd.prog.cellsOf 9 = 1 := by kernel_rfl
theorem texts_of {H : Type} {enc : TypeId × Value → H} {W : World} {base : Nat} {sp : Nat → Bool} {held : Bool} {a : Option Addr} {len cap : Nat} {d : DataW H} {p : List MemPlace}
    (h : DataW.Trod enc Tryd.prog W base sp held 22 (.slice a len cap) d p) :
    ∃ ss : List ByteArray, IsTexts W a len ss ∧ (∀ i, i < len → (ss.getD i ByteArray.empty).size ≤ 9223372036854775807) ∧ len ≤ 9223372036854775807 := by
  obtain ⟨fuel, hf⟩ := h
  rcases open_strings Tryd.underlying22 Tryd.underlying9 cellsString hf with ⟨hcs, _⟩ | ⟨x, l, c, ss, hcs, _, hl, hm, hz, _, hcell, hsz⟩
  · simp [Value.cells] at hcs
    obtain ⟨rfl, rfl, rfl⟩ := hcs
    exact ⟨[], .inl rfl, fun i hi => by omega, by omega⟩
  · simp [Value.cells] at hcs
    obtain ⟨rfl, rfl, rfl⟩ := hcs
    unfold maxLen at hm hsz
    have hls : len ≤ ss.length := by rw [hz]; split <;> omega
    refine ⟨ss, ?_, fun i hi => ?_, by omega⟩
    · by_cases h0 : len = 0
      · exact .inl h0
      · right
        obtain ⟨b, off, spot⟩ := x
        have hspot : spot = none := by simpa [Addr.add] using World.cell?_spot (hcell 0 (by omega))
        subst hspot
        refine ⟨b, off, rfl, hls, fun i hi => ?_⟩
        have := hcell i (by omega)
        rw [add_plain] at this
        exact this
    · have hi' : i < ss.length := by omega
      have := hsz (ss[i]) (List.getElem_mem hi')
      simp [List.getD_eq_getElem?_getD, hi']
      omega
end Go.Proofs.YtemnbleacjpfcaaDoor.W
