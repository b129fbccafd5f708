/-
  What the listed package-level variable gives the walks; what PathUp and PathMore are asked. Conditions: none.
  Asked.Few, and what a run of few changes keeps. Conditions: what came in lies in memory.
-/
import Derived.Test.YtjdcoaiklpkedaaDoorCards
import Derived.Test.YtjdcoaiklpkedaaDoorTie
import Derived.Test.YtjdcoaiklpkedaaDoorVArg
import Derived.Test.YtjdcoaiklpkedaaDoorPMay
import Derived.Lib.LaidTab
import Derived.ChangeOld
import Derived.Below
import Derived.LaidMore
import Derived.ChangeSame
import Derived.Deep.DeepHandedRow
import Derived.Deep.DeepWitnessRowRef
import Derived.Stop.LaidErr
import Derived.Test.YtjdcoaiklpkedaaDoorHUp
import Derived.Test.YtjdcoaiklpkedaaDoorHWalk
import Derived.Test.YtjdcoaiklpkedaaDoorVMade
import Derived.Deep.CutRange
set_option linter.unusedVariables false
namespace Go.Proofs.YtjdcoaiklpkedaaDoor
open Go.ChangeShapes Go.WideShapes Go.ChangeAt Go.RowKit Go.Deep

def htxt (l : List UInt8) : ByteArray := ⟨l.toArray⟩
theorem gCls : Tryd.prog.globalNamed "domesday/perm.classes" = some 0 := by kernel_rfl
theorem gClsType : (Tryd.prog.globals[0]?).map (·.type) = some 138 := by kernel_rfl
theorem cellsCls : Tryd.prog.cellsOf 137 = 4 := by kernel_rfl
theorem cells3Cls : Tryd.prog.cellsOf 138 = 12 := by kernel_rfl
theorem cellsCred : Tryd.prog.cellsOf 24 = 2 := by kernel_rfl
theorem cellsAsked : Tryd.prog.cellsOf 26 = 5 := by kernel_rfl
theorem cellsSlice : Tryd.prog.cellsOf 22 = 1 := by kernel_rfl
theorem cellsBool : Tryd.prog.cellsOf 4 = 1 := by kernel_rfl
set_option maxRecDepth 100000 in
/-- A class that reads as two numbers and two texts holds them, cell by cell. -/
theorem cls_of {H : Type} {enc : TypeId × Value → H} {w : World} {base : Nat} {sp : Nat → Bool} {held : Bool} {fuel : Nat} {cs : List Value} {f s : Int} {x X : List UInt8} {y : DataW H × List MemPlace}
    (h : DataW.trod enc Tryd.prog w base sp held fuel 137 cs = some y) (hy : y.1 = .agg [.lit (.int .i64 f), .lit (.int .i64 s), .lit (.string x), .lit (.string X)]) :
    cs[0]? = some (.int .i64 f) ∧ cs[1]? = some (.int .i64 s) ∧ cs[2]? = some (.string (htxt x)) ∧ cs[3]? = some (.string (htxt X)) := by
  obtain ⟨ys, n, _, rfl, hl, hyl, hf⟩ := DataW.trod_struct Tryd.underlying137 h
  rw [cellsCls] at hl
  have f0 := hf 0 _ rfl
  have f1 := hf 1 _ rfl
  have f2 := hf 2 _ rfl
  have f3 := hf 3 _ rfl
  clear hf
  match cs, hl, ys, hyl with
  | [c0, c1, c2, c3], _, [y0, y1, y2, y3], _ =>
    simp [cellsInt, cellsStr] at f0 f1 f2 f3
    obtain ⟨n0, e0, k0, _⟩ := DataW.trod_int Tryd.underlying3 f0
    obtain ⟨n1, e1, k1, _⟩ := DataW.trod_int Tryd.underlying3 f1
    obtain ⟨s2, e2, k2, _⟩ := DataW.trod_string Tryd.underlying9 f2
    obtain ⟨s3, e3, k3, _⟩ := DataW.trod_string Tryd.underlying9 f3
    simp at e0 e1 e2 e3
    simp [k0, k1, k2, k3] at hy
    obtain ⟨h0, h1, h2, h3⟩ := hy
    refine ⟨by rw [e0, h0]; rfl, by rw [e1, h1]; rfl, ?_, ?_⟩
    · rw [e2, ← h2]; cases s2; simp [htxt]
    · rw [e3, ← h3]; cases s3; simp [htxt]

set_option maxRecDepth 100000 in
theorem tab_of {W : World} {rest : List (String × DataW Unit)} (h : laidMet Tryd.prog (("domesday/perm.classes", Rows.laid_domesday_perm_classes) :: rest) W) : Tab W := by
  obtain ⟨ps, ⟨g', t', cs, fuel, p, q, hg', ht', hvar, hd, _, _⟩, _⟩ := h
  obtain rfl := Option.some.inj (gCls.symm.trans hg')
  obtain rfl := Option.some.inj (gClsType.symm.trans ht')
  obtain ⟨xs, m, _, hx, hlen, hxl, ha⟩ := DataW.trod_array Tryd.underlying138 hd
  have a0 := ha 0 (by decide)
  have a1 := ha 1 (by decide)
  have a2 := ha 2 (by decide)
  clear ha
  have hx1 := congrArg Prod.fst hx
  unfold Rows.laid_domesday_perm_classes at hx1
  match xs, hxl with
  | [z0, z1, z2], _ =>
    simp only [List.map_cons, List.map_nil, DataW.agg.injEq, List.cons.injEq, and_true] at hx1
    obtain ⟨k0, k1, k2⟩ := hx1
    rw [cellsCls] at a0 a1 a2
    have c0 := cls_of a0 k0.symm
    have c1 := cls_of a1 k1.symm
    have c2 := cls_of a2 k2.symm
    refine ⟨fun j v hj => ?_⟩
    rw [World.var?_cell gCls hvar (0 + j)]
    simp at c0 c1 c2
    have hl : j < 12 := (List.getElem?_eq_some_iff.1 hj).1
    match j, hl, hj with
    | 0, _, hj => cases Option.some.inj hj; exact c0.1
    | 1, _, hj => cases Option.some.inj hj; exact c0.2.1
    | 2, _, hj => cases Option.some.inj hj; exact c0.2.2.1
    | 3, _, hj => cases Option.some.inj hj; exact c0.2.2.2
    | 4, _, hj => cases Option.some.inj hj; exact c1.1
    | 5, _, hj => cases Option.some.inj hj; exact c1.2.1
    | 6, _, hj => cases Option.some.inj hj; exact c1.2.2.1
    | 7, _, hj => cases Option.some.inj hj; exact c1.2.2.2
    | 8, _, hj => cases Option.some.inj hj; exact c2.1
    | 9, _, hj => cases Option.some.inj hj; exact c2.2.1
    | 10, _, hj => cases Option.some.inj hj; exact c2.2.2.1
    | 11, _, hj => cases Option.some.inj hj; exact c2.2.2.2

set_option maxRecDepth 100000 in
theorem asked_of {H : Type} {enc : TypeId × Value → H} {W : World} {r : Reach} {b0 base : Nat} {sp : Nat → Bool} {held : Bool} {v : Value} {x : DataW H} {p : List MemPlace}
    (hv : Value.okWide Tryd.prog W r b0 26 v) (h : DataW.Trod enc Tryd.prog W base sp held 26 v x p) :
    ∃ (a : Option Addr) (cs : List Chg) (cap : Nat) (u g : Int) (s : ByteArray) (b : Bool), v = .agg #[.slice a cs.length cap, .int .i64 u, .int .i64 g, .string s, .bool b] ∧ IsChgs W a cs ∧ (∀ c ∈ cs, WideC c) ∧ cs.length ≤ 9223372036854775807 ∧ s.size ≤ 9223372036854775807 := by
  obtain ⟨cs, rfl, hsz⟩ := okWide_struct Tryd.underlying26 hv
  obtain ⟨fuel, h⟩ := h
  obtain ⟨ys, n, _, _, _, hyl, hf⟩ := DataW.trod_struct Tryd.underlying26 h
  rw [cellsAsked] at hsz
  have f0 := hf 0 _ rfl
  have f1 := hf 1 _ rfl
  have f2 := hf 2 _ rfl
  have f3 := hf 3 _ rfl
  clear hf
  obtain ⟨l⟩ := cs
  match l, hsz, ys, hyl with
  | [c0, c1, c2, c3, c4], _, [y0, y1, y2, y3], _ =>
    simp [Value.cells, cellsSlice, cellsCred, cellsStr, cellsBool] at f0 f1 f2 f3
    obtain ⟨zs, m, _, _, _, hzl, hg⟩ := DataW.trod_struct Tryd.underlying24 f1
    have g0 := hg 0 _ rfl
    have g1 := hg 1 _ rfl
    clear hg
    match zs, hzl with
    | [z0, z1], _ =>
      simp [cellsInt] at g0 g1
      obtain ⟨n0, e0, _, _⟩ := DataW.trod_int Tryd.underlying3 g0
      obtain ⟨n1, e1, _, _⟩ := DataW.trod_int Tryd.underlying3 g1
      obtain ⟨s2, e2, _, k2⟩ := DataW.trod_string Tryd.underlying9 f2
      obtain ⟨b3, e3, _⟩ := DataW.trod_bool Tryd.underlying4 f3
      simp at e0 e1 e2 e3
      have hc0 : ∃ (a : Option Addr) (len cap : Nat), c0 = .slice a len cap := by
        rcases open_slice Tryd.underlying22 f0 with ⟨hcs, _⟩ | ⟨x, l, c, m, n, D, Pl, hcs, _⟩
        · exact ⟨none, 0, 0, by simpa using hcs⟩
        · exact ⟨some x, l, c, by simpa using hcs⟩
      obtain ⟨a, len, cap, rfl⟩ := hc0
      obtain ⟨cs, rfl, h1, h2, h3⟩ := changes_of ⟨_, f0⟩
      exact ⟨a, cs, cap, n0, n1, s2, b3, by rw [e0, e1, e2, e3], h1, h2, h3, le_max_of k2⟩
end Go.Proofs.YtjdcoaiklpkedaaDoor

namespace Go.Proofs.YtjdcoaiklpkedaaDoor
open Go.RowKit

def askedC (a : Option Addr) (n cap : Nat) (u g : Int) (s : ByteArray) (fo : Bool) : List Value := [.slice a n cap, .int .i64 u, .int .i64 g, .string s, .bool fo]
def askedV (a : Option Addr) (n cap : Nat) (u g : Int) (s : ByteArray) (fo : Bool) : Value := .agg #[.slice a n cap, .int .i64 u, .int .i64 g, .string s, .bool fo]
theorem runM_tgt : ∀ (cs : List Chg) (M : List Nd), TgtM M → (∀ c ∈ cs, c.text.size ≤ 5000) → TgtM (runM cs M)
  | [], M, h, _ => h
  | c :: r, M, h, hc => runM_tgt r (doM M c) (tgt_do h (hc c (List.mem_cons_self ..))) (fun x hx => hc x (List.mem_cons_of_mem _ hx))
theorem runM_du : ∀ (cs : List Chg) (M : List Nd), DU M → DU (runM cs M)
  | [], M, h => h
  | c :: r, M, h => runM_du r (doM M c) (du_do h)
theorem few_text {cs : List Chg} (h : FewL cs) (hl : cs.length ≤ 400) : ∀ c ∈ cs, c.text.size ≤ 5000 := fun c hc => by
  obtain ⟨k, hk⟩ := List.mem_iff_getElem?.1 hc
  exact (h k c (by have := (List.getElem?_eq_some_iff.1 hk).1; omega) hk).2

set_option maxRecDepth 100000 in
set_option maxHeartbeats 4000000 in
theorem askedFew_any (cs : List Chg) (a : Option Addr) (cap : Nat) (u g : Int) (s : ByteArray) (fo : Bool) (n : Int) (w : World) (H : IsChgs w a cs) (hl : cs.length ≤ 9223372036854775807) (hz : ∀ c ∈ cs, c.name.size ≤ 9223372036854775807 ∧ c.text.size ≤ 9223372036854775807) :
    Calls Tryd.prog 5 #[askedV a cs.length cap u g s fo, .int .i64 n] w fun e w' => ∃ b : Bool, e = .returned (.bool b) ∧ (b = true ↔ (FewL cs ∧ (cs.length : Int) ≤ n) ∧ s.size ≤ 5000) ∧ Below w.heap.size w w' := by
  have HF := Lib.hid (fun W (hb : Below w.heap.size w W) => few_any cs a cap n W (H.keep hb) hl hz)
  have HBa := Lib.hid (show ∀ o, Below w.heap.size w (w.alloc o) from fun o => (Below.refl _ _).alloc (Nat.le_refl _) _)
  clear H hz hl
  unfold askedV
  go_enter Tryd.func5, Tryd.ntmps5
  go_wp2_with fail
  refine (HF.out _ (HBa.out _)).mono ?_
  rintro e w3 ⟨b, rfl, hb, rfl⟩
  have HBb := Lib.hid hb
  clear hb
  cases b with
  | false =>
    go_wp2_with fail
    go_ret
    exact ⟨false, rfl, ⟨fun q => (by cases q), fun q => (HBb.out.2 q.1)⟩, HBa.out _⟩
  | true =>
    by_cases h5 : s.size ≤ 5000
    · have d5 : decide ((s.size : Int) ≤ 5000) = true := decide_eq_true (by omega)
      go_wp2_with fail
      go_ret
      exact ⟨true, rfl, ⟨fun _ => ⟨HBb.out.1 (by trivial), h5⟩, fun _ => (by trivial)⟩, HBa.out _⟩
    · have d5 : decide ((s.size : Int) ≤ 5000) = false := decide_eq_false (by omega)
      go_wp2_with fail
      go_ret
      exact ⟨false, rfl, ⟨fun q => (by cases q), fun q => absurd q.2 h5⟩, HBa.out _⟩

end Go.Proofs.YtjdcoaiklpkedaaDoor
