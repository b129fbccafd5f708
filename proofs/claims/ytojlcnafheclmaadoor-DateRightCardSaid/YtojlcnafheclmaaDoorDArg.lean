/-
  A date that came in: its eight numbers. Conditions: none.
-/
import Derived.Test.YtojlcnafheclmaaDoorDLaid
import Derived.Deep.Fields
namespace Go.Proofs.YtojlcnafheclmaaDoor
open Go.ChangeShapes Go.WideShapes Go.ChangeAt Go.RowKit Go.Deep

theorem cellsI64 : Tryd.prog.cellsOf 2 = 1 := by kernel_rfl
theorem cellsDate : Tryd.prog.cellsOf 23 = 8 := by kernel_rfl

theorem date_of {H : Type} {enc : TypeId × Value → H} {W : World} {r : Reach} {b0 base : Nat} {sp : Nat → Bool} {held : Bool} {v : Value} {x : DataW H} {p : List MemPlace}
    (hv : Value.okWide Tryd.prog W r b0 23 v) (h : DataW.Trod enc Tryd.prog W base sp held 23 v x p) :
    ∃ y m d h i s wd yd : Int, v = .agg #[.int .i64 y, .int .i64 m, .int .i64 d, .int .i64 h, .int .i64 i, .int .i64 s, .int .i64 wd, .int .i64 yd] ∧ -9223372036854775808 ≤ m ∧ m ≤ 9223372036854775807 := by
  obtain ⟨cs, rfl, hsz⟩ := okWide_struct Tryd.underlying23 hv
  obtain ⟨fuel, h⟩ := h
  obtain ⟨ys, n, _, _, _, hyl, hf⟩ := DataW.trod_struct Tryd.underlying23 h
  rw [cellsDate] at hsz
  have f0 := hf 0 _ rfl
  have f1 := hf 1 _ rfl
  have f2 := hf 2 _ rfl
  have f3 := hf 3 _ rfl
  have f4 := hf 4 _ rfl
  have f5 := hf 5 _ rfl
  have f6 := hf 6 _ rfl
  have f7 := hf 7 _ rfl
  clear hf
  obtain ⟨l⟩ := cs
  match l, hsz, ys, hyl with
  | [c0, c1, c2, c3, c4, c5, c6, c7], _, [y0, y1, y2, y3, y4, y5, y6, y7], _ =>
    simp [Value.cells, cellsI64, cellsInt] at f0 f1 f2 f3 f4 f5 f6 f7
    obtain ⟨n0, e0, _, _⟩ := DataW.trod_int Tryd.underlying2 f0
    obtain ⟨n1, e1, _, g1⟩ := DataW.trod_int Tryd.underlying3 f1
    obtain ⟨n2, e2, _, _⟩ := DataW.trod_int Tryd.underlying3 f2
    obtain ⟨n3, e3, _, _⟩ := DataW.trod_int Tryd.underlying3 f3
    obtain ⟨n4, e4, _, _⟩ := DataW.trod_int Tryd.underlying3 f4
    obtain ⟨n5, e5, _, _⟩ := DataW.trod_int Tryd.underlying3 f5
    obtain ⟨n6, e6, _, _⟩ := DataW.trod_int Tryd.underlying3 f6
    obtain ⟨n7, e7, _, _⟩ := DataW.trod_int Tryd.underlying3 f7
    simp at e0 e1 e2 e3 e4 e5 e6 e7
    have b := bounds_i64 g1
    exact ⟨n0, n1, n2, n3, n4, n5, n6, n7, by rw [e0, e1, e2, e3, e4, e5, e6, e7], b.1, b.2⟩
end Go.Proofs.YtojlcnafheclmaaDoor
