/-
  What the listed package-level variables give the walks: the table of classes. Conditions: each fact's own.
-/
import Derived.Test.YtigkdehaepenhaaDoorCards
import Derived.Test.YtigkdehaepenhaaDoorTie
import Derived.Test.YtigkdehaepenhaaDoorJFmt
import Derived.ProofKit
import Derived.SizedLaws
import Derived.OpenShut
import Derived.ShutString
import Derived.Deep.Slices
import Derived.Deep.Fields
import Derived.Test.YtigkdehaepenhaaDoorPMay
import Derived.Lib.LaidTab
import Derived.ChangeOld
import Derived.Below
import Derived.LaidMore
import Derived.ChangeSame
import Derived.Lay
import Derived.Deep.DeepHandedRow
import Derived.Deep.DeepWitnessRowRef
import Derived.Stop.LaidErr
set_option linter.unusedVariables false
set_option linter.unusedSimpArgs false
namespace Go.Proofs.YtigkdehaepenhaaDoor.J
open Go.ChangeShapes Go.WideShapes Go.ChangeAt Go.RowKit Go.Deep

theorem own : ownKnob Tryd.prog.godebug = none := by kernel_rfl
theorem laidOut : laidOutB Tryd.prog = true := by kernel_rfl
theorem cellsInt : Tryd.prog.cellsOf 3 = 1 := by kernel_rfl
theorem cellsStr : Tryd.prog.cellsOf 9 = 1 := by kernel_rfl
def htxt (l : List UInt8) : ByteArray := ⟨l.toArray⟩
theorem gCls : Tryd.prog.globalNamed "domesday/perm.classes" = some 0 := by kernel_rfl
theorem gClsType : (Tryd.prog.globals[0]?).map (·.type) = some 95 := by kernel_rfl
theorem cellsCls : Tryd.prog.cellsOf 94 = 4 := by kernel_rfl
theorem cells3Cls : Tryd.prog.cellsOf 95 = 12 := by kernel_rfl
set_option maxRecDepth 100000 in
/-- A class that reads as two numbers and two texts holds them, cell by cell. -/
theorem cls_of {H : Type} {enc : TypeId × Value → H} {w : World} {base : Nat} {sp : Nat → Bool} {held : Bool} {fuel : Nat} {cs : List Value} {f s : Int} {x X : List UInt8} {y : DataW H × List MemPlace}
    (h : DataW.trod enc Tryd.prog w base sp held fuel 94 cs = some y) (hy : y.1 = .agg [.lit (.int .i64 f), .lit (.int .i64 s), .lit (.string x), .lit (.string X)]) :
    cs[0]? = some (.int .i64 f) ∧ cs[1]? = some (.int .i64 s) ∧ cs[2]? = some (.string (htxt x)) ∧ cs[3]? = some (.string (htxt X)) := by
  obtain ⟨ys, n, _, rfl, hl, hyl, hf⟩ := DataW.trod_struct Tryd.underlying94 h
  rw [cellsCls] at hl
  have f0 := hf 0 _ rfl
  have f1 := hf 1 _ rfl
  have f2 := hf 2 _ rfl
  have f3 := hf 3 _ rfl
  clear hf
  match cs, hl, ys, hyl with
  | [c0, c1, c2, c3], _, [y0, y1, y2, y3], _ =>
    simp [cellsInt, cellsStr] at f0 f1 f2 f3
    obtain ⟨n0, e0, k0, _⟩ := DataW.trod_int Tryd.underlying3 f0
    obtain ⟨n1, e1, k1, _⟩ := DataW.trod_int Tryd.underlying3 f1
    obtain ⟨s2, e2, k2, _⟩ := DataW.trod_string Tryd.underlying9 f2
    obtain ⟨s3, e3, k3, _⟩ := DataW.trod_string Tryd.underlying9 f3
    simp at e0 e1 e2 e3
    simp [k0, k1, k2, k3] at hy
    obtain ⟨h0, h1, h2, h3⟩ := hy
    refine ⟨by rw [e0, h0]; rfl, by rw [e1, h1]; rfl, ?_, ?_⟩
    · rw [e2, ← h2]; cases s2; simp [htxt]
    · rw [e3, ← h3]; cases s3; simp [htxt]

set_option maxRecDepth 100000 in
theorem ptab_of {W : World} {x : String × DataW Unit} {l : List (String × DataW Unit)} (h : laidMet Tryd.prog (x :: ("domesday/perm.classes", Rows.laid_domesday_perm_classes) :: l) W) : P.Tab W := by
  obtain ⟨ps, ⟨_, _, _, _, _, _, _, _, _, _, ⟨g', t', cs, fuel, p, q, hg', ht', hvar, hd, _, _⟩, _⟩, _⟩ := h
  obtain rfl := Option.some.inj (gCls.symm.trans hg')
  obtain rfl := Option.some.inj (gClsType.symm.trans ht')
  obtain ⟨xs, m, _, hx, hlen, hxl, ha⟩ := DataW.trod_array Tryd.underlying95 hd
  have a0 := ha 0 (by decide)
  have a1 := ha 1 (by decide)
  have a2 := ha 2 (by decide)
  clear ha
  have hx1 := congrArg Prod.fst hx
  unfold Rows.laid_domesday_perm_classes at hx1
  match xs, hxl with
  | [z0, z1, z2], _ =>
    simp only [List.map_cons, List.map_nil, DataW.agg.injEq, List.cons.injEq, and_true] at hx1
    obtain ⟨k0, k1, k2⟩ := hx1
    rw [cellsCls] at a0 a1 a2
    have c0 := cls_of a0 k0.symm
    have c1 := cls_of a1 k1.symm
    have c2 := cls_of a2 k2.symm
    refine ⟨fun j v hj => ?_⟩
    rw [World.var?_cell gCls hvar (0 + j)]
    simp at c0 c1 c2
    have hl : j < 12 := (List.getElem?_eq_some_iff.1 hj).1
    match j, hl, hj with
    | 0, _, hj => cases Option.some.inj hj; exact c0.1
    | 1, _, hj => cases Option.some.inj hj; exact c0.2.1
    | 2, _, hj => cases Option.some.inj hj; exact c0.2.2.1
    | 3, _, hj => cases Option.some.inj hj; exact c0.2.2.2
    | 4, _, hj => cases Option.some.inj hj; exact c1.1
    | 5, _, hj => cases Option.some.inj hj; exact c1.2.1
    | 6, _, hj => cases Option.some.inj hj; exact c1.2.2.1
    | 7, _, hj => cases Option.some.inj hj; exact c1.2.2.2
    | 8, _, hj => cases Option.some.inj hj; exact c2.1
    | 9, _, hj => cases Option.some.inj hj; exact c2.2.1
    | 10, _, hj => cases Option.some.inj hj; exact c2.2.2.1
    | 11, _, hj => cases Option.some.inj hj; exact c2.2.2.2
theorem gPow : Tryd.prog.globalNamed "internal/strconv.uint64pow10" = some 2 := by kernel_rfl
theorem gPowType : (Tryd.prog.globals[2]?).map (·.type) = some 126 := by kernel_rfl
theorem cellsPow : Tryd.prog.cellsOf 126 = 20 := by kernel_rfl
theorem cellsU64 : Tryd.prog.cellsOf 81 = 1 := by kernel_rfl
def tz64 : List Int := [0, 1, 56, 2, 57, 49, 28, 3, 61, 58, 42, 50, 38, 29, 17, 4, 62, 47, 59, 36, 45, 43, 51, 22, 53, 39, 33, 30, 24, 18, 12, 5, 63, 55, 48, 27, 60, 41, 37, 16, 46, 35, 44, 21, 52, 32, 23, 11, 54, 26, 40, 15, 34, 20, 31, 10, 25, 14, 19, 9, 13, 8, 7, 6]
theorem gTz : Tryd.prog.globalNamed "math/bits.deBruijn64tab" = some 4 := by kernel_rfl
theorem gTzType : (Tryd.prog.globals[4]?).map (·.type) = some 135 := by kernel_rfl
theorem cellsTz : Tryd.prog.cellsOf 135 = 64 := by kernel_rfl
theorem cellsU8 : Tryd.prog.cellsOf 5 = 1 := by kernel_rfl
theorem tab_of {X : World} {a b c : String × DataW Unit} (h : laidMet Tryd.prog [a, ("math/bits.deBruijn64tab", Rows.laid_math_bits_deBruijn64tab), ("internal/strconv.uint64pow10", Rows.laid_internal_strconv_uint64pow10), b, ("domesday/perm.classes", Rows.laid_domesday_perm_classes), c] X) : FTab X := by
  have t1 : Lib.TabIs Tryd.prog X "math/bits.deBruijn64tab" .u8 tz64 := Lib.tabIs_of_head gTz gTzType Tryd.underlying135 Tryd.underlying5 cellsU8 cellsTz h.tail
  have t2 : Lib.TabIs Tryd.prog X "internal/strconv.uint64pow10" .u64 Lib.pow10Tab := Lib.tabIs_of_head gPow gPowType Tryd.underlying126 Tryd.underlying81 cellsU64 cellsPow h.tail.tail
  exact ⟨ptab_of h.tail.tail.tail, t2, ⟨t1.cell gTz 7 (by decide), t1.cell gTz 15 (by decide)⟩⟩
end Go.Proofs.YtigkdehaepenhaaDoor.J
