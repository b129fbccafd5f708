/-
  What the listed package-level variable gives the walks: the table of widths, cell by cell. Conditions: none.
-/
import Derived.Test.YtemnbleacjpfcaaDoorCards
import Derived.Test.YtemnbleacjpfcaaDoorTie
import Derived.Test.YtemnbleacjpfcaaDoorWRune
import Derived.ProofKit
import Derived.OpenShut
import Derived.ShutString
import Derived.ChangeOld
import Derived.Below
import Derived.LaidMore
import Derived.Deep.Slices
import Derived.Deep.Fields
import Derived.ChangeSame
import Derived.Deep.DeepHandedRow
import Derived.Deep.DeepWitnessRowRef
import Derived.Stop.LaidErr
namespace Go.Proofs.YtemnbleacjpfcaaDoor.W
open Go.ChangeShapes Go.WideShapes Go.ChangeAt Go.RowKit Go.Deep

theorem own : ownKnob Tryd.prog.godebug = none := by kernel_rfl
theorem laidOut : laidOutB Tryd.prog = true := by kernel_rfl
theorem gRows : Tryd.prog.globalNamed "domesday/width.rows" = some 0 := by kernel_rfl
theorem gRowsType : (Tryd.prog.globals[0]?).map (·.type) = some 63 := by kernel_rfl
theorem cellsSpan : Tryd.prog.cellsOf 65 = 3 := by kernel_rfl

theorem cellsI32 : Tryd.prog.cellsOf 21 = 1 := by kernel_rfl
theorem cellsInt : Tryd.prog.cellsOf 3 = 1 := by kernel_rfl

/-- The row as the list has it. -/
def rowD {H : Type} (x : Int × Int × Int) : DataW H := .agg [.lit (.int .i32 x.1), .lit (.int .i32 x.2.1), .lit (.int .i64 x.2.2)]
theorem laid_rows : (Rows.laid_domesday_width_rows : DataW Unit) = .slice (rowsL.map rowD) [] := rfl

set_option maxRecDepth 100000 in
/-- Three cells that read as a row hold its numbers. -/
theorem row_cells {H : Type} {enc : TypeId × Value → H} {W : World} {base : Nat} {sp : Nat → Bool} {held : Bool} {fuel : Nat} {cs : List Value} {x : Int × Int × Int} {p : List MemPlace}
    (h : DataW.trod enc Tryd.prog W base sp held fuel 65 cs = some (rowD x, p)) : cs = [.int .i32 x.1, .int .i32 x.2.1, .int .i64 x.2.2] := by
  obtain ⟨ys, n, _, hx, hlen, hyl, hf⟩ := DataW.trod_struct Tryd.underlying65 h
  rw [cellsSpan] at hlen
  have f0 := hf 0 _ rfl
  have f1 := hf 1 _ rfl
  have f2 := hf 2 _ rfl
  clear hf
  match cs, hlen, ys, hyl with
  | [c0, c1, c2], _, [y0, y1, y2], _ =>
    simp [cellsI32, cellsInt] at f0 f1 f2
    obtain ⟨n0, e0, d0, _⟩ := DataW.trod_int Tryd.underlying21 f0
    obtain ⟨n1, e1, d1, _⟩ := DataW.trod_int Tryd.underlying21 f1
    obtain ⟨n2, e2, d2, _⟩ := DataW.trod_int Tryd.underlying3 f2
    subst d0 d1 d2
    simp [rowD] at hx
    obtain ⟨⟨h0, h1, h2⟩, _⟩ := hx
    simp at e0 e1 e2
    rw [e0, e1, e2, h0, h1, h2]

theorem tab_of {W : World} {rest : List (String × DataW Unit)} (h : laidMet Tryd.prog (("domesday/width.rows", Rows.laid_domesday_width_rows) :: rest) W) : Tab W := by
  obtain ⟨ps, ⟨g', t', cs, fuel, p, q, hg', ht', hvar, hd, _, _⟩, _⟩ := h
  obtain rfl := Option.some.inj (gRows.symm.trans hg')
  obtain rfl := Option.some.inj (gRowsType.symm.trans ht')
  rw [laid_rows] at hd
  rcases open_slice Tryd.underlying63 hd with ⟨_, hx⟩ | ⟨a, len, cap, m, n, D, Pl, hcs, _, hl, _, hm, hx, hi⟩
  · simp at hx
  simp only [Prod.mk.injEq, DataW.slice.injEq] at hx
  obtain ⟨⟨hD, _⟩, _⟩ := hx
  have hlen : len = 17 := by
    have := congrArg List.length hD
    simpa [rowsL] using this.symm
  subst hlen
  have hm17 : 17 ≤ m := by rw [hm]; split <;> omega
  have each : ∀ k, k < 17 → W.cell? (a.add (k * 3)) = some (.int .i32 (rowAt k).1) ∧ W.cell? (a.add (k * 3 + 1)) = some (.int .i32 (rowAt k).2.1) ∧ W.cell? (a.add (k * 3 + 2)) = some (.int .i64 (rowAt k).2.2) := by
    intro k hk
    obtain ⟨cs', hc, ht⟩ := hi k (by omega)
    have hDk : D k = rowD (rowAt k) := by
      have := congrArg (fun l => l[k]?) hD
      have hk' : k < rowsL.length := hk
      simp [hk, hk'] at this
      rw [← this]
      unfold rowAt
      simp [List.getD, hk']
    rw [hDk] at ht
    have e := row_cells ht
    subst e
    rw [cellsSpan] at hc
    obtain ⟨_, _, hat⟩ := World.cells?_some hc
    have g0 := hat 0 (by omega)
    have g1 := hat 1 (by omega)
    have g2 := hat 2 (by omega)
    rw [Go.Deep.add_add] at g0 g1 g2
    exact ⟨by simpa using g0, by simpa using g1, by simpa using g2⟩
  obtain ⟨b, off, spot⟩ := a
  have hspot : spot = none := by simpa [Addr.add] using World.cell?_spot (each 0 (by omega)).1
  subst hspot
  refine ⟨b, off, cap, ?_, fun k hk => ?_, fun k hk => ?_, fun k hk => ?_⟩
  · have := World.var?_cell hg' hvar 0
    rw [Array.eq_one_of_toList hcs] at this
    simpa using this
  · have := (each k hk).1
    rw [add_plain] at this
    exact this
  · have := (each k hk).2.1
    rw [add_plain] at this
    exact this
  · have := (each k hk).2.2
    rw [add_plain] at this
    exact this
end Go.Proofs.YtemnbleacjpfcaaDoor.W
