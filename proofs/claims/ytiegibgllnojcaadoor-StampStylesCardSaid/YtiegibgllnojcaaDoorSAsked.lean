/-
  What is asked of a style, that came in: its numbers and its text. Conditions: none.
-/
import Derived.Test.YtiegibgllnojcaaDoorSLaid
import Derived.Deep.Fields
namespace Go.Proofs.YtiegibgllnojcaaDoor
open Go.ChangeShapes Go.WideShapes Go.ChangeAt Go.RowKit Go.Deep

theorem cellsI64 : Tryd.prog.cellsOf 2 = 1 := by kernel_rfl
theorem cellsAsked : Tryd.prog.cellsOf 31 = 5 := by kernel_rfl
/-- A text's size, and the bounds of three numbers. -/
structure AskedBd (own : ByteArray) (t n o : Int) : Prop where
  z : own.size ≤ 9223372036854775807
  t0 : -9223372036854775808 ≤ t
  t1 : t ≤ 9223372036854775807
  n0 : -9223372036854775808 ≤ n
  n1 : n ≤ 9223372036854775807
  o0 : -9223372036854775808 ≤ o
  o1 : o ≤ 9223372036854775807
set_option maxRecDepth 100000 in
theorem asked_of {H : Type} {enc : TypeId × Value → H} {W : World} {r : Reach} {b0 base : Nat} {sp : Nat → Bool} {held : Bool} {v : Value} {x : DataW H} {p : List MemPlace}
    (hv : Value.okWide Tryd.prog W r b0 31 v) (h : DataW.Trod enc Tryd.prog W base sp held 31 v x p) :
    ∃ (style : Int) (own : ByteArray) (t n o : Int), v = .agg #[.int .i64 style, .string own, .int .i64 t, .int .i64 n, .int .i64 o] ∧ AskedBd own t n o := by
  obtain ⟨cs, rfl, hsz⟩ := okWide_struct Tryd.underlying31 hv
  obtain ⟨fuel, h⟩ := h
  obtain ⟨ys, n, _, _, _, hyl, hf⟩ := DataW.trod_struct Tryd.underlying31 h
  rw [cellsAsked] at hsz
  have f0 := hf 0 _ rfl
  have f1 := hf 1 _ rfl
  have f2 := hf 2 _ rfl
  have f3 := hf 3 _ rfl
  have f4 := hf 4 _ rfl
  clear hf
  obtain ⟨l⟩ := cs
  match l, hsz, ys, hyl with
  | [c0, c1, c2, c3, c4], _, [y0, y1, y2, y3, y4], _ =>
    simp [Value.cells, cellsI64, cellsInt, cellsStr] at f0 f1 f2 f3 f4
    obtain ⟨n0, e0, _, _⟩ := DataW.trod_int Tryd.underlying3 f0
    obtain ⟨s1, e1, _, g1⟩ := DataW.trod_string Tryd.underlying9 f1
    obtain ⟨n2, e2, _, g2⟩ := DataW.trod_int Tryd.underlying2 f2
    obtain ⟨n3, e3, _, g3⟩ := DataW.trod_int Tryd.underlying2 f3
    obtain ⟨n4, e4, _, g4⟩ := DataW.trod_int Tryd.underlying3 f4
    simp at e0 e1 e2 e3 e4
    have b2 := bounds_i64 g2
    have b3 := bounds_i64 g3
    have b4 := bounds_i64 g4
    refine ⟨n0, s1, n2, n3, n4, by rw [e0, e1, e2, e3, e4], ⟨?_, b2.1, b2.2, b3.1, b3.2, b4.1, b4.2⟩⟩
    exact text_max g1
end Go.Proofs.YtiegibgllnojcaaDoor
