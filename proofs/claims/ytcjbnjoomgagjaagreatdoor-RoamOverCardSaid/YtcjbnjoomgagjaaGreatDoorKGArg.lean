/-
  A slice of changes, and one change, that came in. Conditions: none.
-/
import Derived.Test.YtcjbnjoomgagjaaGreatDoorKVLinks
import Derived.ProofKit
import Derived.SizedLaws
import Derived.OpenShut
import Derived.ShutString
import Derived.Deep.Slices
import Derived.Deep.Fields
import Derived.Test.YtcjbnjoomgagjaaGreatDoorKGShow
import Derived.Test.YtcjbnjoomgagjaaGreatDoorKVMade
import Derived.Test.YtcjbnjoomgagjaaGreatDoorCards
import Derived.Test.YtcjbnjoomgagjaaGreatDoorTie
import Derived.Test.YtcjbnjoomgagjaaGreatDoorKPMay
import Derived.Lib.LaidTab
import Derived.ChangeOld
import Derived.Below
import Derived.LaidMore
import Derived.ChangeSame
import Derived.Lay
import Derived.Deep.DeepHandedRow
import Derived.Deep.DeepWitnessRowRef
import Derived.Stop.LaidErr
set_option linter.unusedVariables false
set_option linter.unusedSimpArgs false
namespace Go.Proofs.YtcjbnjoomgagjaaGreatDoor.V
open Go.ChangeShapes Go.WideShapes Go.ChangeAt Go.RowKit Go.Deep
theorem own : ownKnob Tryz.prog.godebug = none := by kernel_rfl
theorem laidOut : laidOutB Tryz.prog = true := by kernel_rfl
theorem cellsInt : Tryz.prog.cellsOf 3 = 1 := by kernel_rfl
theorem cellsI64 : Tryz.prog.cellsOf 2 = 1 := by kernel_rfl
theorem cellsStr : Tryz.prog.cellsOf 9 = 1 := by kernel_rfl
theorem cellsChange : Tryz.prog.cellsOf 64 = 8 := by kernel_rfl
structure WideC (c : Chg) : Prop where
  name : c.name.size ≤ 9223372036854775807
  text : c.text.size ≤ 9223372036854775807
  lo : -9223372036854775808 ≤ c.n
  hi : c.n ≤ 9223372036854775807
theorem le_max_of {n : Nat} (h : n ≤ maxLen) : n ≤ 9223372036854775807 := by unfold maxLen at h; exact h
set_option maxRecDepth 100000 in
theorem chg_of_cells {H : Type} {enc : TypeId × Value → H} {W : World} {base : Nat} {sp : Nat → Bool} {held : Bool} {fuel : Nat} {cs : List Value} {y : DataW H × List MemPlace}
    (h : DataW.trod enc Tryz.prog W base sp held fuel 64 cs = some y) : ∃ c : Chg, cs = chgL c ∧ WideC c := by
  obtain ⟨ys, n, _, _, hlen, hyl, hf⟩ := DataW.trod_struct Tryz.underlying64 h
  rw [cellsChange] at hlen
  have f0 := hf 0 _ rfl
  have f1 := hf 1 _ rfl
  have f2 := hf 2 _ rfl
  have f3 := hf 3 _ rfl
  have f4 := hf 4 _ rfl
  have f5 := hf 5 _ rfl
  have f6 := hf 6 _ rfl
  have f7 := hf 7 _ rfl
  clear hf
  match cs, hlen, ys, hyl with
  | [c0, c1, c2, c3, c4, c5, c6, c7], _, [y0, y1, y2, y3, y4, y5, y6, y7], _ =>
    simp [cellsInt, cellsI64, cellsStr] at f0 f1 f2 f3 f4 f5 f6 f7
    obtain ⟨n0, e0, _, _⟩ := DataW.trod_int Tryz.underlying3 f0
    obtain ⟨n1, e1, _, _⟩ := DataW.trod_int Tryz.underlying3 f1
    obtain ⟨n2, e2, _, _⟩ := DataW.trod_int Tryz.underlying3 f2
    obtain ⟨s3, e3, _, g3⟩ := DataW.trod_string Tryz.underlying9 f3
    obtain ⟨s4, e4, _, g4⟩ := DataW.trod_string Tryz.underlying9 f4
    obtain ⟨n5, e5, _, _⟩ := DataW.trod_int Tryz.underlying3 f5
    obtain ⟨n6, e6, _, _⟩ := DataW.trod_int Tryz.underlying3 f6
    obtain ⟨n7, e7, _, g7⟩ := DataW.trod_int Tryz.underlying2 f7
    simp at e0 e1 e2 e3 e4 e5 e6 e7
    have b := bounds_i64 g7
    refine ⟨⟨n0, n1, n2, s3, s4, n5, n6, n7⟩, by rw [e0, e1, e2, e3, e4, e5, e6, e7]; rfl, WideC.mk (le_max_of g3) (le_max_of g4) b.1 b.2⟩
theorem changes_of {H : Type} {enc : TypeId × Value → H} {W : World} {base : Nat} {sp : Nat → Bool} {held : Bool} {a : Option Addr} {len cap : Nat} {d : DataW H} {p : List MemPlace}
    (h : DataW.Trod enc Tryz.prog W base sp held 22 (.slice a len cap) d p) :
    ∃ cs : List Chg, cs.length = len ∧ IsChgs W a cs ∧ (∀ c ∈ cs, WideC c) ∧ len ≤ 9223372036854775807 := by
  obtain ⟨fuel, hf⟩ := h
  rcases open_slice Tryz.underlying22 hf with ⟨hcs, _⟩ | ⟨x, l, c, m, n, D, Pl, hcs, _, hl, hm, hmm, _, hx⟩
  · simp [Value.cells] at hcs
    obtain ⟨rfl, rfl, rfl⟩ := hcs
    exact ⟨[], rfl, .inl rfl, fun c hc => (by cases hc), by omega⟩
  · simp [Value.cells] at hcs
    obtain ⟨rfl, rfl, rfl⟩ := hcs
    unfold maxLen at hm
    have hlm : len ≤ m := by rw [hmm]; split <;> omega
    rw [cellsChange] at hx
    have each : ∀ i, i < len → ∃ c : Chg, WideC c ∧ ∀ j v, (chgL c)[j]? = some v → W.cell? (x.add (i * 8 + j)) = some v := by
      intro i hi
      obtain ⟨cs', hc, ht⟩ := hx i (by omega)
      obtain ⟨c, rfl, hw⟩ := chg_of_cells ht
      refine ⟨c, hw, fun j v hj => ?_⟩
      obtain ⟨_, _, hat⟩ := World.cells?_some hc
      have hj8 : j < 8 := (List.getElem?_eq_some_iff.1 hj).1
      have := hat j hj8
      rw [Go.Deep.add_add] at this
      rw [this]
      exact hj
    classical
    by_cases h0 : len = 0
    · exact ⟨[], h0.symm, .inl rfl, fun c hc => (by cases hc), by omega⟩
    · have hin : Inhabited Chg := ⟨⟨0, 0, 0, ByteArray.empty, ByteArray.empty, 0, 0, 0⟩⟩
      obtain ⟨f, hf⟩ := choose_lt each
      obtain ⟨b, off, spot⟩ := x
      have hspot : spot = none := by
        have := (hf 0 (by omega)).2 0 _ rfl
        simpa [Addr.add] using World.cell?_spot this
      subst hspot
      refine ⟨(List.range len).map f, by simp, .inr ⟨b, off, rfl, fun k c hk => ?_⟩, fun c hc => ?_, by omega⟩
      · rw [List.getElem?_map] at hk
        obtain ⟨k', hk', rfl⟩ := Option.map_eq_some_iff.1 hk
        have hkl : k < len := by have := (List.getElem?_eq_some_iff.1 hk').1; simpa using this
        rw [List.getElem?_range hkl] at hk'
        obtain rfl := Option.some.inj hk'
        intro j v hj
        have := (hf k hkl).2 j v hj
        rw [add_plain] at this
        rw [Nat.add_assoc]
        exact this
      · obtain ⟨k, hk, rfl⟩ := List.mem_map.1 hc
        exact (hf k (by simpa using hk)).1
end Go.Proofs.YtcjbnjoomgagjaaGreatDoor.V
namespace Go.Proofs.YtcjbnjoomgagjaaGreatDoor.G
open Go.RowKit
def ModeM (M : List V.Nd) : Prop := ∀ n ∈ M, 0 ≤ n.mode ∧ n.mode < 4096
theorem mode_new : ModeM V.newM := fun n hn => by
  obtain rfl : n = V.addedNd (V.dirNd 493 0) 1 [] := by simpa [V.newM] using hn
  exact ⟨by decide, by decide⟩
theorem mode_mod {M : List V.Nd} {i : Nat} {f : V.Nd → V.Nd} (h : ModeM M) (hf : ∀ n : V.Nd, 0 ≤ n.mode ∧ n.mode < 4096 → 0 ≤ (f n).mode ∧ (f n).mode < 4096) : ModeM (M.modify i f) := V.all_modify h (fun _ h => h) hf
theorem mode_app {M : List V.Nd} {n : V.Nd} (h : ModeM M) (hn : 0 ≤ n.mode ∧ n.mode < 4096) : ModeM (M ++ [n]) := fun x hx => by
  rcases List.mem_append.1 hx with hx | hx
  · exact h x hx
  · obtain rfl := List.mem_singleton.1 hx; exact hn
theorem mode_built {M : List V.Nd} {i : Nat} {s : ByteArray} {n : V.Nd} {d : Int} (h : ModeM M) (hn : 0 ≤ n.mode ∧ n.mode < 4096) : ModeM (V.builtM M i s n d) :=
  mode_mod (mode_mod (mode_app h hn) fun _ h => h) fun _ h => h
theorem mode_do {M : List V.Nd} {c : V.Chg} (h : ModeM M) : ModeM (V.doM M c) := by
  have hm : 0 ≤ c.a % 4096 ∧ c.a % 4096 < 4096 := by omega
  unfold V.doM
  split
  · unfold V.carryM
    split
    · exact mode_built h hm
    · split
      · exact mode_built h hm
      · split
        · exact mode_mod (mode_mod h fun _ h => h) fun _ h => h
        · split
          · exact mode_built h ⟨show (0 : Int) ≤ 511 by decide, show (511 : Int) < 4096 by decide⟩
          · split
            · exact mode_mod (mode_app h hm) fun _ h => h
            · refine mode_mod h fun n hn => ?_
              unfold V.setNd
              repeat' split
              all_goals first | exact hm | exact hn
  · exact h
theorem runM_mode : ∀ (cs : List V.Chg) (M : List V.Nd), ModeM M → ModeM (V.runM cs M)
  | [], M, h => h
  | c :: r, M, h => runM_mode r (V.doM M c) (mode_do h)
structure Good (M : List V.Nd) : Prop where
  pos : 0 < M.length
  few : M.length ≤ 300
  ents : ∀ n ∈ M, n.ents.length ≤ 400
  mode : ModeM M
  ri : V.RI M
  ui : UI M
theorem good_run (cs : List V.Chg) (hl : cs.length ≤ 400) : Good (V.runM cs V.newM) := by
  have hs := V.runM_small cs V.newM 0 V.new_small
  exact ⟨V.runM_pos cs V.newM (by decide), hs.1, fun n hn => by have := (hs.2 n hn).2.2; omega, runM_mode cs V.newM mode_new, runM_ri cs V.newM V.ri_new V.devInv_new, runM_ui cs V.newM ui_new V.ri_new V.devInv_new⟩
theorem Good.walk {M : List V.Nd} (h : Good M) (u g : Int) (all : Bool) (most : Int) (v : Vis) (f : Nat) : (walkV (treeM M u g all) most f v).length ≤ 1 + 300 * 401 ∧ ∀ x ∈ walkV (treeM M u g all) most f v, x.name.size ≤ v.name.size + f * 256 := by
  have B := treeB h.ri h.ui u g all (E := 400) h.ents
  refine ⟨?_, walk_names (K := 255) (fun d e he => (V.goodB_parts (shown_good h.ri all d he).1).2.1) f v⟩
  have h1 := walk_few B most f v
  have h2 : M.length * (400 + 1) ≤ 300 * (400 + 1) := Nat.mul_le_mul_right _ h.few
  exact Nat.le_trans h1 (Nat.add_le_add_left h2 1)
theorem tel_any {v0 W0 : World} {M : List V.Nd} {p : Nat} (u g : Int) (all : Bool) (hf : V.Has v0 p M W0) (ht : P.Tab W0) (hG : Good M) : Tel (treeM M u g all) (V.nodeEr M) W0 p u g all := by
  refine ⟨fun i W hb => ?_, fun i W hb => ?_, fun i W hb => ?_⟩
  · refine (V.has_nodeI i (hf.keep hb) hG.pos).mono ?_
    rintro e w' ⟨rfl, hb'⟩
    refine ⟨V.nvAt M i, by rw [V.nodeV_nv], ?_, hb'⟩
    show ((V.nvAt M i).kind == 2) = decide ((V.nvAt M i).kind = 2)
    rw [Bool.eq_iff_iff, beq_iff_eq, decide_eq_true_eq]
  · refine (V.has_over i (hf.keep hb) hG.pos).mono ?_
    rintro e w' ⟨rfl, rfl⟩
    exact ⟨rfl, rfl⟩
  · refine (pshown_any u g i all W (hf.keep hb) (ht.keep hb) hG.pos (fun n hn => by have := hG.ents n hn; omega) hG.ri).mono ?_
    rintro e w' ⟨v, rfl, h1, _, h2⟩
    exact ⟨v, rfl, h1, h2⟩
theorem walkM_any {v0 W0 : World} {M : List V.Nd} {p : Nat} (u g : Int) (all : Bool) (hf : V.Has v0 p M W0) (ht : P.Tab W0) (hG : Good M) (most id : Int) (name : ByteArray) (hn : name.size ≤ 300) :
    Calls Tryz.prog 10 #[.pointer (some ⟨p, 0, none⟩), P.credV u g, .int .i64 id, .string name, .int .i64 most, .bool all] W0 (WalkP (treeM M u g all) (V.nodeEr M) most id name W0) := by
  have hw := hG.walk u g all most (firstV id name) 101
  refine pwalk_any (tel_any u g all hf ht hG) ?_ ?_ ?_
  · show (walkV (treeM M u g all) most 101 (firstV id name)).length ≤ _
    omega
  · intro x hx
    have := hw.2 x hx
    have e : (firstV id name).name = name := rfl
    rw [e] at this
    omega
  · intro d e he
    have := (V.goodB_parts (shown_good hG.ri all d he).1).2.1
    omega
end Go.Proofs.YtcjbnjoomgagjaaGreatDoor.G
namespace Go.Proofs.YtcjbnjoomgagjaaGreatDoor.G
open Go.ChangeShapes Go.WideShapes Go.ChangeAt Go.RowKit Go.Deep
theorem own : ownKnob Tryz.prog.godebug = none := V.own
theorem laidOut : laidOutB Tryz.prog = true := V.laidOut
def htxt (l : List UInt8) : ByteArray := ⟨l.toArray⟩
theorem gCls : Tryz.prog.globalNamed "domesday/perm.classes" = some 0 := by kernel_rfl
theorem gClsType : (Tryz.prog.globals[0]?).map (·.type) = some 125 := by kernel_rfl
theorem cellsCls : Tryz.prog.cellsOf 124 = 4 := by kernel_rfl
theorem cellsCred : Tryz.prog.cellsOf 24 = 2 := by kernel_rfl
theorem cellsAsked : Tryz.prog.cellsOf 26 = 7 := by kernel_rfl
theorem cellsSlice : Tryz.prog.cellsOf 22 = 1 := by kernel_rfl
theorem cellsBool : Tryz.prog.cellsOf 4 = 1 := by kernel_rfl
set_option maxRecDepth 100000 in
theorem cls_of {H : Type} {enc : TypeId × Value → H} {w : World} {base : Nat} {sp : Nat → Bool} {held : Bool} {fuel : Nat} {cs : List Value} {f s : Int} {x X : List UInt8} {y : DataW H × List MemPlace}
    (h : DataW.trod enc Tryz.prog w base sp held fuel 124 cs = some y) (hy : y.1 = .agg [.lit (.int .i64 f), .lit (.int .i64 s), .lit (.string x), .lit (.string X)]) :
    cs[0]? = some (.int .i64 f) ∧ cs[1]? = some (.int .i64 s) ∧ cs[2]? = some (.string (htxt x)) ∧ cs[3]? = some (.string (htxt X)) := by
  obtain ⟨ys, n, _, rfl, hl, hyl, hf⟩ := DataW.trod_struct Tryz.underlying124 h
  rw [cellsCls] at hl
  have f0 := hf 0 _ rfl
  have f1 := hf 1 _ rfl
  have f2 := hf 2 _ rfl
  have f3 := hf 3 _ rfl
  clear hf
  match cs, hl, ys, hyl with
  | [c0, c1, c2, c3], _, [y0, y1, y2, y3], _ =>
    simp [V.cellsInt, V.cellsStr] at f0 f1 f2 f3
    obtain ⟨n0, e0, k0, _⟩ := DataW.trod_int Tryz.underlying3 f0
    obtain ⟨n1, e1, k1, _⟩ := DataW.trod_int Tryz.underlying3 f1
    obtain ⟨s2, e2, k2, _⟩ := DataW.trod_string Tryz.underlying9 f2
    obtain ⟨s3, e3, k3, _⟩ := DataW.trod_string Tryz.underlying9 f3
    simp at e0 e1 e2 e3
    simp [k0, k1, k2, k3] at hy
    obtain ⟨h0, h1, h2, h3⟩ := hy
    refine ⟨by rw [e0, h0]; rfl, by rw [e1, h1]; rfl, ?_, ?_⟩
    · rw [e2, ← h2]; cases s2; simp [htxt]
    · rw [e3, ← h3]; cases s3; simp [htxt]
set_option maxRecDepth 100000 in
theorem tab_of {W : World} {x : String × DataW Unit} {l : List (String × DataW Unit)} (h : laidMet Tryz.prog (x :: ("domesday/perm.classes", Rows.laid_domesday_perm_classes) :: l) W) : P.Tab W := by
  obtain ⟨ps, ⟨_, _, _, _, _, _, _, _, _, _, ⟨g', t', cs, fuel, p, q, hg', ht', hvar, hd, _, _⟩, _⟩, _⟩ := h
  obtain rfl := Option.some.inj (gCls.symm.trans hg')
  obtain rfl := Option.some.inj (gClsType.symm.trans ht')
  obtain ⟨xs, m, _, hx, hlen, hxl, ha⟩ := DataW.trod_array Tryz.underlying125 hd
  have a0 := ha 0 (by decide)
  have a1 := ha 1 (by decide)
  have a2 := ha 2 (by decide)
  clear ha
  have hx1 := congrArg Prod.fst hx
  unfold Rows.laid_domesday_perm_classes at hx1
  match xs, hxl with
  | [z0, z1, z2], _ =>
    simp only [List.map_cons, List.map_nil, DataW.agg.injEq, List.cons.injEq, and_true] at hx1
    obtain ⟨k0, k1, k2⟩ := hx1
    rw [cellsCls] at a0 a1 a2
    have c0 := cls_of a0 k0.symm
    have c1 := cls_of a1 k1.symm
    have c2 := cls_of a2 k2.symm
    refine ⟨fun j v hj => ?_⟩
    rw [World.var?_cell gCls hvar (0 + j)]
    simp at c0 c1 c2
    have hl : j < 12 := (List.getElem?_eq_some_iff.1 hj).1
    match j, hl, hj with
    | 0, _, hj => cases Option.some.inj hj; exact c0.1
    | 1, _, hj => cases Option.some.inj hj; exact c0.2.1
    | 2, _, hj => cases Option.some.inj hj; exact c0.2.2.1
    | 3, _, hj => cases Option.some.inj hj; exact c0.2.2.2
    | 4, _, hj => cases Option.some.inj hj; exact c1.1
    | 5, _, hj => cases Option.some.inj hj; exact c1.2.1
    | 6, _, hj => cases Option.some.inj hj; exact c1.2.2.1
    | 7, _, hj => cases Option.some.inj hj; exact c1.2.2.2
    | 8, _, hj => cases Option.some.inj hj; exact c2.1
    | 9, _, hj => cases Option.some.inj hj; exact c2.2.1
    | 10, _, hj => cases Option.some.inj hj; exact c2.2.2.1
    | 11, _, hj => cases Option.some.inj hj; exact c2.2.2.2
set_option maxRecDepth 100000 in
theorem asked_of {H : Type} {enc : TypeId × Value → H} {W : World} {r : Reach} {b0 base : Nat} {sp : Nat → Bool} {held : Bool} {v : Value} {x : DataW H} {p : List MemPlace}
    (hv : Value.okWide Tryz.prog W r b0 26 v) (h : DataW.Trod enc Tryz.prog W base sp held 26 v x p) :
    ∃ (a : Option Addr) (cs : List V.Chg) (cap : Nat) (u g i : Int) (s : ByteArray) (m : Int) (b : Bool), v = .agg #[.slice a cs.length cap, .int .i64 u, .int .i64 g, .int .i64 i, .string s, .int .i64 m, .bool b] ∧ V.IsChgs W a cs ∧ (∀ c ∈ cs, V.WideC c) ∧ cs.length ≤ 9223372036854775807 ∧ s.size ≤ 9223372036854775807 := by
  obtain ⟨cs, rfl, hsz⟩ := okWide_struct Tryz.underlying26 hv
  obtain ⟨fuel, h⟩ := h
  obtain ⟨ys, n, _, _, _, hyl, hf⟩ := DataW.trod_struct Tryz.underlying26 h
  rw [cellsAsked] at hsz
  have f0 := hf 0 _ rfl
  have f1 := hf 1 _ rfl
  have f2 := hf 2 _ rfl
  have f3 := hf 3 _ rfl
  have f4 := hf 4 _ rfl
  have f5 := hf 5 _ rfl
  clear hf
  obtain ⟨l⟩ := cs
  match l, hsz, ys, hyl with
  | [c0, c1, c2, c3, c4, c5, c6], _, [y0, y1, y2, y3, y4, y5], _ =>
    simp [Value.cells, cellsSlice, cellsCred, V.cellsStr, V.cellsInt, cellsBool] at f0 f1 f2 f3 f4 f5
    obtain ⟨zs, m, _, _, _, hzl, hg⟩ := DataW.trod_struct Tryz.underlying24 f1
    have g0 := hg 0 _ rfl
    have g1 := hg 1 _ rfl
    clear hg
    match zs, hzl with
    | [z0, z1], _ =>
      simp [V.cellsInt] at g0 g1
      obtain ⟨n0, e0, _, _⟩ := DataW.trod_int Tryz.underlying3 g0
      obtain ⟨n1, e1, _, _⟩ := DataW.trod_int Tryz.underlying3 g1
      obtain ⟨n2, e2, _, _⟩ := DataW.trod_int Tryz.underlying3 f2
      obtain ⟨s3, e3, _, k3⟩ := DataW.trod_string Tryz.underlying9 f3
      obtain ⟨n4, e4, _, _⟩ := DataW.trod_int Tryz.underlying3 f4
      obtain ⟨b5, e5, _⟩ := DataW.trod_bool Tryz.underlying4 f5
      simp at e0 e1 e2 e3 e4 e5
      have hc0 : ∃ (a : Option Addr) (len cap : Nat), c0 = .slice a len cap := by
        rcases open_slice Tryz.underlying22 f0 with ⟨hcs, _⟩ | ⟨x, l, c, m, n, D, Pl, hcs, _⟩
        · exact ⟨none, 0, 0, by simpa using hcs⟩
        · exact ⟨some x, l, c, by simpa using hcs⟩
      obtain ⟨a, len, cap, rfl⟩ := hc0
      obtain ⟨cs, rfl, h1, h2, h3⟩ := V.changes_of ⟨_, f0⟩
      exact ⟨a, cs, cap, n0, n1, n2, s3, n4, b5, by rw [e0, e1, e2, e3, e4, e5], h1, h2, h3, V.le_max_of k3⟩
def askedV (a : Option Addr) (n cap : Nat) (u g i : Int) (s : ByteArray) (m : Int) (b : Bool) : Value := .agg #[.slice a n cap, .int .i64 u, .int .i64 g, .int .i64 i, .string s, .int .i64 m, .bool b]
set_option maxRecDepth 100000 in
set_option maxHeartbeats 4000000 in
theorem askedFew_any (cs : List V.Chg) (a : Option Addr) (cap : Nat) (u g i : Int) (s : ByteArray) (m : Int) (fo : Bool) (n : Int) (w : World) (H : V.IsChgs w a cs) (hl : cs.length ≤ 9223372036854775807) (hz : ∀ c ∈ cs, c.name.size ≤ 9223372036854775807 ∧ c.text.size ≤ 9223372036854775807) :
    Calls Tryz.prog 8 #[askedV a cs.length cap u g i s m fo, .int .i64 n] w fun e w' => ∃ b : Bool, e = .returned (.bool b) ∧ (b = true ↔ (V.FewL cs ∧ (cs.length : Int) ≤ n) ∧ s.size ≤ 300) ∧ Below w.heap.size w w' := by
  have HF := Lib.hid (fun W (hb : Below w.heap.size w W) => V.few_any cs a cap n W (H.keep hb) hl hz)
  have HBa := Lib.hid (show ∀ o, Below w.heap.size w (w.alloc o) from fun o => (Below.refl _ _).alloc (Nat.le_refl _) _)
  clear H hz hl
  unfold askedV
  go_enter Tryz.func8, Tryz.ntmps8
  go_wp2_with fail
  refine (HF.out _ (HBa.out _)).mono ?_
  rintro e w3 ⟨b, rfl, hb, rfl⟩
  have HBb := Lib.hid hb
  clear hb
  cases b with
  | false =>
    go_wp2_with fail
    go_ret
    exact ⟨false, rfl, ⟨fun q => (by cases q), fun q => (HBb.out.2 q.1)⟩, HBa.out _⟩
  | true =>
    by_cases h5 : s.size ≤ 300
    · have d5 : decide ((s.size : Int) ≤ 300) = true := decide_eq_true (by omega)
      go_wp2_with fail
      go_ret
      exact ⟨true, rfl, ⟨fun _ => ⟨HBb.out.1 (by trivial), h5⟩, fun _ => (by trivial)⟩, HBa.out _⟩
    · have d5 : decide ((s.size : Int) ≤ 300) = false := decide_eq_false (by omega)
      go_wp2_with fail
      go_ret
      exact ⟨false, rfl, ⟨fun q => (by cases q), fun q => absurd q.2 h5⟩, HBa.out _⟩
theorem new_two : (walkL (treeM V.newM 0 0 true) (V.nodeEr V.newM) (-1) 0 ⟨#[47]⟩).length = 2 := by decide +kernel
theorem good_new : Good V.newM := good_run [] (by simp)
set_option maxRecDepth 100000 in
theorem awoken_any (w : World) (ht : P.Tab w) :
    Calls Tryz.prog 7 #[] w fun e w' => e = .returned (.bool true) ∧ Below w.heap.size w w' := by
  have HT := Lib.hid ht
  clear ht
  go_enter Tryz.func7, Tryz.ntmps7
  go_wp2_with (first
    | (go_at_call 18; refine (V.new_any w).mono ?_; rintro e w2 ⟨p, rfl, H2⟩; have HH := Lib.hid H2; clear H2)
    | (go_at_call 10; refine (walkM_any 0 0 true HH.out (HT.out.keep HH.out.below) good_new (-1) 0 ⟨#[47]⟩ (by decide)).mono ?_; rintro e w3 ⟨v, rfl, ho, hb⟩; rw [new_two] at ho; have HO := Lib.hid ho; have HB := Lib.hid hb; clear ho hb; obtain ⟨ao, co, hv⟩ := B.owns_form HO.out; subst hv))
  go_ret
  exact ⟨rfl, HH.out.below.trans (HB.out.mono HH.out.below.size)⟩
set_option maxHeartbeats 1000000 in
theorem count_any (h : V.Fsh) (w : World) (H : V.Fs h w) (hn : 0 < h.X.length) :
    Calls Tryz.prog 11 #[.pointer (some ⟨h.p, 0, none⟩)] w fun e w' => e = .returned (.int .i64 (h.X.length : Int)) ∧ w = w' := by
  obtain ⟨g, cap, hv, _, _⟩ := H.slice hn
  have c0 := H.cell0
  rw [hv] at c0
  clear hv
  go_enter Tryz.func11, Tryz.ntmps11
  go_wp2
  go_ret
  exact ⟨rfl, rfl⟩
theorem has_count12 {w0 w : World} {p : Nat} {M : List V.Nd} (h : V.Has w0 p M w) (hn : 0 < M.length) :
    Calls Tryz.prog 11 #[.pointer (some ⟨p, 0, none⟩)] w fun e w' => e = .returned (.int .i64 (M.length : Int)) ∧ w' = w := by
  obtain ⟨h, rfl, rfl, H, hb, hf⟩ := h
  have hml : h.M.length = h.X.length := List.length_map ..
  rw [hml]
  refine (count_any h w H (by omega)).mono ?_
  rintro e w' ⟨rfl, q⟩
  exact ⟨rfl, q.symm⟩
end Go.Proofs.YtcjbnjoomgagjaaGreatDoor.G
