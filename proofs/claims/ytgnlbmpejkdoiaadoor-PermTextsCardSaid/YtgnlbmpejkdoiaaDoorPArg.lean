/-
  What the listed package-level variable gives the walks; a node, somebody who asks and two bytes that came in. Conditions: none.
-/
import Derived.Test.YtgnlbmpejkdoiaaDoorCards
import Derived.Test.YtgnlbmpejkdoiaaDoorTie
import Derived.Test.YtgnlbmpejkdoiaaDoorPBoxes
import Derived.ProofKit
import Derived.Lib.LaidTab
import Derived.OpenShut
import Derived.ShutString
import Derived.ChangeOld
import Derived.Below
import Derived.LaidMore
import Derived.ChangeSame
import Derived.Deep.DeepHandedRow
import Derived.Deep.DeepWitnessRowRef
import Derived.Stop.LaidErr
import Derived.Deep.Fields
namespace Go.Proofs.YtgnlbmpejkdoiaaDoor
open Go.ChangeShapes Go.WideShapes Go.ChangeAt Go.RowKit Go.Deep

theorem own : ownKnob Tryd.prog.godebug = none := by kernel_rfl
theorem laidOut : laidOutB Tryd.prog = true := by kernel_rfl
theorem gCls : Tryd.prog.globalNamed "domesday/perm.classes" = some 0 := by kernel_rfl
theorem gClsType : (Tryd.prog.globals[0]?).map (·.type) = some 47 := by kernel_rfl
theorem cellsInt : Tryd.prog.cellsOf 3 = 1 := by kernel_rfl
theorem cellsI64 : Tryd.prog.cellsOf 2 = 1 := by kernel_rfl
theorem cellsU8 : Tryd.prog.cellsOf 5 = 1 := by kernel_rfl
theorem cellsStr : Tryd.prog.cellsOf 9 = 1 := by kernel_rfl
theorem cellsCls : Tryd.prog.cellsOf 46 = 4 := by kernel_rfl
theorem cells3Cls : Tryd.prog.cellsOf 47 = 12 := by kernel_rfl
theorem cellsTimes : Tryd.prog.cellsOf 22 = 3 := by kernel_rfl
theorem cellsTwo : Tryd.prog.cellsOf 31 = 2 := by kernel_rfl
theorem cellsNode : Tryd.prog.cellsOf 24 = 13 := by kernel_rfl
theorem cellsCred : Tryd.prog.cellsOf 26 = 2 := by kernel_rfl
theorem maxLen_eq : maxLen = 9223372036854775807 := by decide +kernel

theorem node_of {H : Type} {enc : TypeId × Value → H} {W : World} {r : Reach} {b0 base : Nat} {sp : Nat → Bool} {held : Bool} {v : Value} {x : DataW H} {p : List MemPlace}
    (hv : Value.okWide Tryd.prog W r b0 24 v) (h : DataW.Trod enc Tryd.prog W base sp held 24 v x p) :
    ∃ n : Nv, v = nodeV n ∧ -9223372036854775808 ≤ n.mode ∧ n.mode ≤ 9223372036854775807 := by
  obtain ⟨cs, rfl, hsz⟩ := okWide_struct Tryd.underlying24 hv
  obtain ⟨fuel, h⟩ := h
  obtain ⟨ys, n, _, _, _, hyl, hf⟩ := DataW.trod_struct Tryd.underlying24 h
  rw [cellsNode] at hsz
  have f0 := hf 0 _ rfl
  have f1 := hf 1 _ rfl
  have f2 := hf 2 _ rfl
  have f3 := hf 3 _ rfl
  have f4 := hf 4 _ rfl
  have f5 := hf 5 _ rfl
  have f6 := hf 6 _ rfl
  have f7 := hf 7 _ rfl
  have f8 := hf 8 _ rfl
  have f9 := hf 9 _ rfl
  have f10 := hf 10 _ rfl
  clear hf
  obtain ⟨l⟩ := cs
  match l, hsz, ys, hyl with
  | [c0, c1, c2, c3, c4, c5, c6, c7, c8, c9, c10, c11, c12], _, [y0, y1, y2, y3, y4, y5, y6, y7, y8, y9, y10], _ =>
    simp [Value.cells, cellsI64, cellsInt, cellsTimes, cellsStr] at f0 f1 f2 f3 f4 f5 f6 f7 f8 f9 f10
    obtain ⟨n0, e0, _, _⟩ := DataW.trod_int Tryd.underlying3 f0
    obtain ⟨n1, e1, _, _⟩ := DataW.trod_int Tryd.underlying3 f1
    obtain ⟨n2, e2, _, _⟩ := DataW.trod_int Tryd.underlying3 f2
    obtain ⟨n3, e3, _, g3⟩ := DataW.trod_int Tryd.underlying3 f3
    obtain ⟨n4, e4, _, _⟩ := DataW.trod_int Tryd.underlying3 f4
    obtain ⟨n5, e5, _, _⟩ := DataW.trod_int Tryd.underlying3 f5
    obtain ⟨n6, e6, _, _⟩ := DataW.trod_int Tryd.underlying2 f6
    obtain ⟨n7, e7, _, _⟩ := DataW.trod_int Tryd.underlying2 f7
    obtain ⟨n8, e8, _, _⟩ := DataW.trod_int Tryd.underlying3 f8
    obtain ⟨xs, m, _, _, _, hxl, ha⟩ := DataW.trod_array Tryd.underlying22 f9
    have a0 := ha 0 (by decide)
    have a1 := ha 1 (by decide)
    have a2 := ha 2 (by decide)
    clear ha
    match xs, hxl with
    | [z0, z1, z2], _ =>
      simp [cellsI64] at a0 a1 a2
      obtain ⟨n9, e9, _, _⟩ := DataW.trod_int Tryd.underlying2 a0
      obtain ⟨n10, e10, _, _⟩ := DataW.trod_int Tryd.underlying2 a1
      obtain ⟨n11, e11, _, _⟩ := DataW.trod_int Tryd.underlying2 a2
      obtain ⟨s, e12, _, _⟩ := DataW.trod_string Tryd.underlying9 f10
      simp at e0 e1 e2 e3 e4 e5 e6 e7 e8 e9 e10 e11 e12
      have b := bounds_i64 g3
      exact ⟨⟨n0, n1, n2, n3, n4, n5, n6, n7, n8, n9, n10, n11, s⟩, by rw [e0, e1, e2, e3, e4, e5, e6, e7, e8, e9, e10, e11, e12]; rfl, b.1, b.2⟩
theorem cred_of {H : Type} {enc : TypeId × Value → H} {W : World} {r : Reach} {b0 base : Nat} {sp : Nat → Bool} {held : Bool} {v : Value} {x : DataW H} {p : List MemPlace}
    (hv : Value.okWide Tryd.prog W r b0 26 v) (h : DataW.Trod enc Tryd.prog W base sp held 26 v x p) :
    ∃ u g : Int, v = credV u g := by
  obtain ⟨cs, rfl, hsz⟩ := okWide_struct Tryd.underlying26 hv
  obtain ⟨fuel, h⟩ := h
  obtain ⟨ys, n, _, _, _, hyl, hf⟩ := DataW.trod_struct Tryd.underlying26 h
  rw [cellsCred] at hsz
  have f0 := hf 0 _ rfl
  have f1 := hf 1 _ rfl
  clear hf
  obtain ⟨l⟩ := cs
  match l, hsz, ys, hyl with
  | [c0, c1], _, [y0, y1], _ =>
    simp [Value.cells, cellsInt] at f0 f1
    obtain ⟨n0, e0, _, _⟩ := DataW.trod_int Tryd.underlying3 f0
    obtain ⟨n1, e1, _, _⟩ := DataW.trod_int Tryd.underlying3 f1
    simp at e0 e1
    exact ⟨n0, n1, by rw [e0, e1]; rfl⟩
theorem okWide_arr {P : Program} {w : World} {r : Reach} {base : Nat} {t e : TypeId} {n : Nat} {v : Value} (ht : P.underlying t = some (.array n e)) (h : Value.okWide P w r base t v) : ∃ cs, v = .agg cs ∧ cs.size = P.cellsOf t := by
  simp only [Value.okWide, ht] at h
  obtain ⟨cs, h1, h2, _⟩ := h
  exact ⟨cs, h1, h2⟩
theorem two_of {H : Type} {enc : TypeId × Value → H} {W : World} {r : Reach} {b0 base : Nat} {sp : Nat → Bool} {held : Bool} {v : Value} {x : DataW H} {p : List MemPlace}
    (hv : Value.okWide Tryd.prog W r b0 31 v) (h : DataW.Trod enc Tryd.prog W base sp held 31 v x p) :
    ∃ a b : Int, v = .agg #[.int .u8 a, .int .u8 b] ∧ 0 ≤ a ∧ a < 256 ∧ 0 ≤ b ∧ b < 256 := by
  obtain ⟨cs, rfl, hsz⟩ := okWide_arr Tryd.underlying31 hv
  obtain ⟨fuel, h⟩ := h
  obtain ⟨xs, m, _, _, _, hxl, ha⟩ := DataW.trod_array Tryd.underlying31 h
  rw [cellsTwo] at hsz
  have a0 := ha 0 (by decide)
  have a1 := ha 1 (by decide)
  clear ha
  obtain ⟨l⟩ := cs
  match l, hsz, xs, hxl with
  | [c0, c1], _, [y0, y1], _ =>
    simp [Value.cells, cellsU8] at a0 a1
    obtain ⟨n0, e0, _, g0⟩ := DataW.trod_int Tryd.underlying5 a0
    obtain ⟨n1, e1, _, g1⟩ := DataW.trod_int Tryd.underlying5 a1
    simp at e0 e1
    have b0 := bounds_u8 g0
    have b1 := bounds_u8 g1
    exact ⟨n0, n1, by rw [e0, e1], b0.1, by have := b0.2; omega, b1.1, by have := b1.2; omega⟩

/-- A class that reads as two numbers and two texts holds them, cell by cell. -/
theorem cls_of {H : Type} {enc : TypeId × Value → H} {w : World} {base : Nat} {sp : Nat → Bool} {held : Bool} {fuel : Nat} {cs : List Value} {f s : Int} {x X : List UInt8} {y : DataW H × List MemPlace}
    (h : DataW.trod enc Tryd.prog w base sp held fuel 46 cs = some y) (hy : y.1 = .agg [.lit (.int .i64 f), .lit (.int .i64 s), .lit (.string x), .lit (.string X)]) :
    cs[0]? = some (.int .i64 f) ∧ cs[1]? = some (.int .i64 s) ∧ cs[2]? = some (.string (txt x)) ∧ cs[3]? = some (.string (txt X)) := by
  obtain ⟨ys, n, _, rfl, hl, hyl, hf⟩ := DataW.trod_struct Tryd.underlying46 h
  rw [cellsCls] at hl
  have f0 := hf 0 _ rfl
  have f1 := hf 1 _ rfl
  have f2 := hf 2 _ rfl
  have f3 := hf 3 _ rfl
  clear hf
  match cs, hl, ys, hyl with
  | [c0, c1, c2, c3], _, [y0, y1, y2, y3], _ =>
    simp [cellsInt, cellsStr] at f0 f1 f2 f3
    obtain ⟨n0, e0, k0, _⟩ := DataW.trod_int Tryd.underlying3 f0
    obtain ⟨n1, e1, k1, _⟩ := DataW.trod_int Tryd.underlying3 f1
    obtain ⟨s2, e2, k2, _⟩ := DataW.trod_string Tryd.underlying9 f2
    obtain ⟨s3, e3, k3, _⟩ := DataW.trod_string Tryd.underlying9 f3
    simp at e0 e1 e2 e3
    simp [k0, k1, k2, k3] at hy
    obtain ⟨h0, h1, h2, h3⟩ := hy
    refine ⟨by rw [e0, h0]; rfl, by rw [e1, h1]; rfl, ?_, ?_⟩
    · rw [e2, ← h2]; cases s2; simp [txt]
    · rw [e3, ← h3]; cases s3; simp [txt]

theorem tab_of {W : World} {rest : List (String × DataW Unit)} (h : laidMet Tryd.prog (("domesday/perm.classes", Rows.laid_domesday_perm_classes) :: rest) W) : Tab W := by
  obtain ⟨ps, ⟨g', t', cs, fuel, p, q, hg', ht', hvar, hd, _, _⟩, _⟩ := h
  obtain rfl := Option.some.inj (gCls.symm.trans hg')
  obtain rfl := Option.some.inj (gClsType.symm.trans ht')
  obtain ⟨xs, m, _, hx, hlen, hxl, ha⟩ := DataW.trod_array Tryd.underlying47 hd
  have a0 := ha 0 (by decide)
  have a1 := ha 1 (by decide)
  have a2 := ha 2 (by decide)
  clear ha
  have hx1 := congrArg Prod.fst hx
  unfold Rows.laid_domesday_perm_classes at hx1
  match xs, hxl with
  | [z0, z1, z2], _ =>
    simp only [List.map_cons, List.map_nil, DataW.agg.injEq, List.cons.injEq, and_true] at hx1
    obtain ⟨k0, k1, k2⟩ := hx1
    rw [cellsCls] at a0 a1 a2
    have c0 := cls_of a0 k0.symm
    have c1 := cls_of a1 k1.symm
    have c2 := cls_of a2 k2.symm
    refine ⟨fun j v hj => ?_⟩
    rw [World.var?_cell gCls hvar (0 + j)]
    simp at c0 c1 c2
    have hl : j < 12 := (List.getElem?_eq_some_iff.1 hj).1
    match j, hl, hj with
    | 0, _, hj => cases Option.some.inj hj; exact c0.1
    | 1, _, hj => cases Option.some.inj hj; exact c0.2.1
    | 2, _, hj => cases Option.some.inj hj; exact c0.2.2.1
    | 3, _, hj => cases Option.some.inj hj; exact c0.2.2.2
    | 4, _, hj => cases Option.some.inj hj; exact c1.1
    | 5, _, hj => cases Option.some.inj hj; exact c1.2.1
    | 6, _, hj => cases Option.some.inj hj; exact c1.2.2.1
    | 7, _, hj => cases Option.some.inj hj; exact c1.2.2.2
    | 8, _, hj => cases Option.some.inj hj; exact c2.1
    | 9, _, hj => cases Option.some.inj hj; exact c2.2.1
    | 10, _, hj => cases Option.some.inj hj; exact c2.2.2.1
    | 11, _, hj => cases Option.some.inj hj; exact c2.2.2.2
end Go.Proofs.YtgnlbmpejkdoiaaDoor
