/-
  A slice of keys, as it lies in memory.
  Conditions: each fact's own.
-/
import Derived.Test.YtfhagjnlliafiaaGreatDoorKOCmp
import Derived.Test.YtfhagjnlliafiaaGreatDoorKOBase
import Derived.Deep.RegionHeld3
import Derived.Test.YtfhagjnlliafiaaGreatDoorKOPr2
set_option linter.unusedVariables false
set_option linter.unusedSimpArgs false
set_option maxHeartbeats 8000000
set_option maxRecDepth 100000
open List renaming setIfInBounds_toArray → lt, set_cons_zero → l0, set_cons_succ → ls
open Go.Act renaming put → u
namespace Go.Proofs.YtfhagjnlliafiaaGreatDoor.O
open Go.Proofs.YtfhagjnlliafiaaGreatDoor.B
open Go.RowKit
def IsKeys (w : World) (a : Option Addr) (l : List Ky) : Prop := l = [] ∨ ∃ g o, a = some ⟨g, o, none⟩ ∧ g < w.heap.size ∧ ∀ (k : Nat) (c : Ky), l[k]? = some c → w.rangeAt g (o + k * 4) (kyL c)
theorem IsKeys.keep {w w' : World} {a : Option Addr} {l : List Ky} (h : IsKeys w a l) (hb : Below w.heap.size w w') : IsKeys w' a l := by
  rcases h with h | ⟨g, o, h1, h0, h2⟩
  · exact .inl h
  · exact .inr ⟨g, o, h1, Nat.lt_of_lt_of_le h0 hb.size, fun k c hk j v hj => (hb.cell (p := ⟨g, _, none⟩) h0).trans (h2 k c hk j v hj)⟩
theorem IsKeys.at_ {w : World} {a : Option Addr} {l : List Ky} (h : IsKeys w a l) {k : Nat} {c : Ky} (hk : l[k]? = some c) : ∃ g o, a = some ⟨g, o, none⟩ ∧ g < w.heap.size ∧ w.rangeAt g (o + k * 4) (kyL c) := by
  rcases h with h | ⟨g, o, h1, h0, h2⟩
  · rw [h] at hk; simp at hk
  · exact ⟨g, o, h1, h0, h2 k c hk⟩
end Go.Proofs.YtfhagjnlliafiaaGreatDoor.O
namespace Go.Proofs.YtfhagjnlliafiaaGreatDoor.O
open Go.Proofs.YtfhagjnlliafiaaGreatDoor.B
open Go.RowKit
theorem getD_at {l : List Ky} {i : Nat} {x : Ky} (h : l[i]? = some x) : l.getD i noKy = x := by rw [List.getD_eq_getElem?_getD, h]; rfl
theorem ahead_dirs {o : Int} {rev dirs : Bool} {l : List Ky} {i k : Nat} {x y : Ky} (hx : l[i]? = some x) (hy : l[k]? = some y) (hd : dirs = true) (hn : x.dir ≠ y.dir) : aheadL (soC o rev dirs) l i k = x.dir := by
  unfold aheadL soC thenC dirC
  rw [getD_at hx, getD_at hy, hd]
  simp only [if_true]
  cases hxd : x.dir <;> cases hyd : y.dir
  · rw [hxd, hyd] at hn; exact absurd rfl hn
  · rfl
  · rfl
  · rw [hxd, hyd] at hn; exact absurd rfl hn
theorem ahead_same {o : Int} {rev dirs : Bool} {l : List Ky} {i k : Nat} {x y : Ky} (hx : l[i]? = some x) (hy : l[k]? = some y) (hd : dirs = true → x.dir = y.dir) : aheadL (soC o rev dirs) l i k = (decide ((if rev = true then -cmpK o x y else cmpK o x y) < 0) || (decide ((if rev = true then -cmpK o x y else cmpK o x y) = 0) && decide (i < k))) := by
  have e : soC o rev dirs x y = if rev = true then -cmpK o x y else cmpK o x y := by
    have h0 : dirC dirs x y = 0 := by
      unfold dirC
      split
      · rename_i q
        rw [hd q]
        exact cmpI_tot.self _
      · rfl
    unfold soC thenC
    rw [if_pos h0]
    unfold revC
    cases rev with
    | false => rfl
    | true => exact (cmpK_tot o).anti x y
  unfold aheadL
  rw [getD_at hx, getD_at hy, e]
theorem two_boxes' (w : World) (A B : Array Value) (e : TypeId) : ((w.alloc (.cells A e)).alloc (.cells B e)).heap[w.heap.size]? = some (.cells A e (0, 0)) ∧ ((w.alloc (.cells A e)).alloc (.cells B e)).heap[w.heap.size + 1]? = some (.cells B e (0, 0)) ∧ Below w.heap.size w ((w.alloc (.cells A e)).alloc (.cells B e)) := by
  refine ⟨?_, ?_, ((Below.refl _ _).alloc (Nat.le_refl _) _).alloc (by simp) _⟩
  · have h1 := heap_alloc_new w (.cells A e)
    have h2 : Below (w.heap.size + 1) (w.alloc (.cells A e)) ((w.alloc (.cells A e)).alloc (.cells B e)) := (Below.refl _ _).alloc (by simp) _
    exact (h2.block _ (by omega)).trans h1
  · have h1 := heap_alloc_new (w.alloc (.cells A e)) (.cells B e)
    rwa [show (w.alloc (.cells A e)).heap.size = w.heap.size + 1 from by simp] at h1
theorem two_boxes (w : World) (A B : Array Value) (e : TypeId) : (((w.alloc (.cells A e)).alloc (.cells B e)).drew).heap[w.heap.size]? = some (.cells A e (0, 0)) ∧ (((w.alloc (.cells A e)).alloc (.cells B e)).drew).heap[w.heap.size + 1]? = some (.cells B e (0, 0)) ∧ Below w.heap.size w (((w.alloc (.cells A e)).alloc (.cells B e)).drew) := by
  refine ⟨?_, ?_, (((Below.refl _ _).alloc (Nat.le_refl _) _).alloc (by simp) _).drew⟩
  · have h1 := heap_alloc_new w (.cells A e)
    have h2 : Below (w.heap.size + 1) (w.alloc (.cells A e)) ((w.alloc (.cells A e)).alloc (.cells B e)) := (Below.refl _ _).alloc (by simp) _
    exact (h2.block _ (by omega)).trans h1
  · have h1 := heap_alloc_new (w.alloc (.cells A e)) (.cells B e)
    rwa [show (w.alloc (.cells A e)).heap.size = w.heap.size + 1 from by simp] at h1
theorem rahead_any (o : Int) (rev dirs : Bool) (l : List Ky) (a : Option Addr) (cap : Nat) (i k : Nat) (w : World) (H : IsKeys w a l) (hl : l.length ≤ 1000000) (hz : ∀ c ∈ l, c.name.size ≤ 60000) (hi : i < l.length) (hk : k < l.length) :
    Calls Tryz.prog 44 #[.int .i64 o, .agg #[.bool rev, .bool dirs], .slice a l.length cap, .int .i64 (i : Int), .int .i64 (k : Int)] w fun e w' => e = .returned (.bool (aheadL (soC o rev dirs) l i k)) ∧ Below w.heap.size w w' := by
  obtain ⟨x, hx⟩ : ∃ x, l[i]? = some x := ⟨_, List.getElem?_eq_getElem hi⟩
  obtain ⟨y, hy⟩ : ∃ y, l[k]? = some y := ⟨_, List.getElem?_eq_getElem hk⟩
  have HCx := Lib.hid (rcompare_any o x y · (hz x (List.mem_of_getElem? hx)) (hz y (List.mem_of_getElem? hy)))
  have HA1 := Lib.hid (fun h h2 => ahead_dirs (o := o) (rev := rev) (dirs := dirs) hx hy h h2)
  have HA2 := Lib.hid (fun h => ahead_same (o := o) (rev := rev) (dirs := dirs) hx hy h)
  have HUn := Lib.hid ((cmpK_tot o).unit x y)
  generalize cmpK o x y = C at HCx HA2 HUn
  generalize aheadL (soC o rev dirs) l i k = R at HA1 HA2 ⊢
  obtain ⟨g, of, rfl, hg, hr1⟩ := H.at_ hx
  obtain ⟨g2, of2, e2, _, hr2⟩ := H.at_ hy
  simp only [Option.some.injEq, Addr.mk.injEq] at e2
  obtain ⟨rfl, rfl, _⟩ := e2
  have HRx := Lib.hid (show ∀ W, Below w.heap.size w W → W.cell? ⟨g, of + i * 4, none⟩ = some (.string x.name) ∧ W.cell? ⟨g, of + i * 4 + 1, none⟩ = some (.int .i64 x.size) ∧ W.cell? ⟨g, of + i * 4 + 2, none⟩ = some (.int .i64 x.time) ∧ W.cell? ⟨g, of + i * 4 + 3, none⟩ = some (.bool x.dir) from fun W hb =>
    ⟨(hb.cell (p := ⟨g, _, none⟩) hg).trans (hr1 0 _ rfl), (hb.cell (p := ⟨g, _, none⟩) hg).trans (hr1 1 _ rfl), (hb.cell (p := ⟨g, _, none⟩) hg).trans (hr1 2 _ rfl), (hb.cell (p := ⟨g, _, none⟩) hg).trans (hr1 3 _ rfl)⟩)
  have HRy := Lib.hid (show ∀ W, Below w.heap.size w W → W.cell? ⟨g, of + k * 4, none⟩ = some (.string y.name) ∧ W.cell? ⟨g, of + k * 4 + 1, none⟩ = some (.int .i64 y.size) ∧ W.cell? ⟨g, of + k * 4 + 2, none⟩ = some (.int .i64 y.time) ∧ W.cell? ⟨g, of + k * 4 + 3, none⟩ = some (.bool y.dir) from fun W hb =>
    ⟨(hb.cell (p := ⟨g, _, none⟩) hg).trans (hr2 0 _ rfl), (hb.cell (p := ⟨g, _, none⟩) hg).trans (hr2 1 _ rfl), (hb.cell (p := ⟨g, _, none⟩) hg).trans (hr2 2 _ rfl), (hb.cell (p := ⟨g, _, none⟩) hg).trans (hr2 3 _ rfl)⟩)
  clear hr1 hr2 hx hy hz H
  go_enter Tryz.func44, Tryz.ntmps44
  go_upto_region 1 with fail
  have HX1 := Lib.hid (heap_alloc_new w (.cells #[.bool rev, .bool dirs] 97))
  have HB1 := Lib.hid (show Below w.heap.size w (w.alloc (.cells #[.bool rev, .bool dirs] 97)) from (Below.refl _ _).alloc (Nat.le_refl _) _)
  have hg1 : g < (w.alloc (.cells #[.bool rev, .bool dirs] 97)).heap.size := by simp; omega
  generalize w.alloc (.cells #[.bool rev, .bool dirs] 97) = w1 at HX1 HB1 hg1 ⊢
  go_cut [11, 12] from 14 to 21 (fun v11 v12 wx => ∃ p q : Nat, v11 = .pointer (some ⟨p, 0, none⟩) ∧ v12 = .pointer (some ⟨q, 0, none⟩) ∧ Hid (wx.heap[p]? = some (.cells #[.string x.name, .int .i64 x.size, .int .i64 x.time, .bool x.dir] 70 (0, 0)) ∧ wx.heap[q]? = some (.cells #[.string y.name, .int .i64 y.size, .int .i64 y.time, .bool y.dir] 70 (0, 0))) ∧ Hid (Below w1.heap.size w1 wx))
  case first =>
    obtain ⟨x0, x1, x2, x3⟩ := HRx.out w1.drew HB1.out.drew
    obtain ⟨y0, y1, y2, y3⟩ := HRy.out w1.drew HB1.out.drew
    obtain ⟨z0, z1, z2, z3⟩ := HRx.out w1 HB1.out
    obtain ⟨t0, t1, t2, t3⟩ := HRy.out w1 HB1.out
    go_region
    all_goals go_wp2
    all_goals go_meet
    · obtain ⟨k1, k2, k3⟩ := two_boxes w1 #[.string x.name, .int .i64 x.size, .int .i64 x.time, .bool x.dir] #[.string y.name, .int .i64 y.size, .int .i64 y.time, .bool y.dir] 70
      exact ⟨_, _, rfl, rfl, Lib.hid ⟨k1, k2⟩, Lib.hid k3⟩
    · obtain ⟨k1, k2, k3⟩ := two_boxes w1 #[.string y.name, .int .i64 y.size, .int .i64 y.time, .bool y.dir] #[.string x.name, .int .i64 x.size, .int .i64 x.time, .bool x.dir] 70
      exact ⟨_, _, rfl, rfl, Lib.hid ⟨k2, k1⟩, Lib.hid k3⟩
  case rest =>
    obtain ⟨p, q, rfl, rfl, HH, HBc⟩ := hcut
    obtain ⟨hp, hq⟩ := HH.out
    have HPk := Lib.hid (show ∀ W, Below wc.heap.size wc W → W.cell? ⟨p, 0, none⟩ = some (.string x.name) ∧ W.cell? ⟨p, 1, none⟩ = some (.int .i64 x.size) ∧ W.cell? ⟨p, 2, none⟩ = some (.int .i64 x.time) ∧ W.cell? ⟨p, 3, none⟩ = some (.bool x.dir) from fun W hW => by
      have z := (hW.block _ (heap_lt hp)).trans hp
      refine ⟨?_, ?_, ?_, ?_⟩ <;> (rw [cell_of_row _ _ _ _ _ _ z]; rfl))
    have HQk := Lib.hid (show ∀ W, Below wc.heap.size wc W → W.cell? ⟨q, 0, none⟩ = some (.string y.name) ∧ W.cell? ⟨q, 1, none⟩ = some (.int .i64 y.size) ∧ W.cell? ⟨q, 2, none⟩ = some (.int .i64 y.time) ∧ W.cell? ⟨q, 3, none⟩ = some (.bool y.dir) from fun W hW => by
      have z := (hW.block _ (heap_lt hq)).trans hq
      refine ⟨?_, ?_, ?_, ?_⟩ <;> (rw [cell_of_row _ _ _ _ _ _ z]; rfl))
    have HHw := Lib.hid (show ∀ W, Below wc.heap.size wc W → W.cell? ⟨w.heap.size, 0, none⟩ = some (.bool rev) ∧ W.cell? ⟨w.heap.size, 1, none⟩ = some (.bool dirs) from fun W hW => by
      have z := ((below_two HBc.out hW).block _ (heap_lt HX1.out)).trans HX1.out
      refine ⟨?_, ?_⟩ <;> (rw [cell_of_row _ _ _ _ _ _ z]; rfl))
    have HBw := Lib.hid (HB1.out.trans (HBc.out.mono HB1.out.size))
    clear hp hq HH HRx HRy HX1
    obtain ⟨p0, p1, p2, p3⟩ := HPk.out wc (Below.refl _ _)
    obtain ⟨q0, q1, q2, q3⟩ := HQk.out wc (Below.refl _ _)
    obtain ⟨h0, h1⟩ := HHw.out wc (Below.refl _ _)
    have HC1 := Lib.hid (HCx.out wc)
    unfold kyV at HC1
    iterate 2 go_step
    go_cut [] from 22 to 30 (fun wx => Hid (wc = wx ∧ (dirs = true → x.dir = y.dir)))
    case first =>
      have bb : ∀ b : Bool, b = false ∨ b = true := fun b => by cases b <;> simp
      rcases bb dirs with hd | hd
      · have HDd := Lib.hid hd
        rw [hd] at h1
        clear hd
        go_wp2_with fail
        go_meet
        case rel => exact Lib.hid ⟨rfl, fun z => by rw [HDd.out] at z; cases z⟩
      · have HDd := Lib.hid hd
        rw [hd] at h1
        clear hd
        rcases bb x.dir with hxd | hxd
        · have HXd := Lib.hid hxd
          rw [hxd] at p3
          clear hxd
          rcases bb y.dir with hyd | hyd
          · have HYd := Lib.hid hyd
            rw [hyd] at q3
            clear hyd
            go_wp2_with fail
            go_meet
            case rel => exact Lib.hid ⟨rfl, fun _ => by rw [HXd.out, HYd.out]⟩
          · have HE := Lib.hid (show R = false from by rw [HA1.out HDd.out (by rw [HXd.out, hyd]; decide), HXd.out])
            rw [hyd] at q3
            clear hyd
            go_wp2_with fail
            go_ret
            exact ⟨ret_bool HE.out.symm, HBw.out⟩
        · have HXd := Lib.hid hxd
          rw [hxd] at p3
          clear hxd
          rcases bb y.dir with hyd | hyd
          · have HE := Lib.hid (show R = true from by rw [HA1.out HDd.out (by rw [HXd.out, hyd]; decide), HXd.out])
            rw [hyd] at q3
            clear hyd
            go_wp2_with fail
            go_ret
            exact ⟨ret_bool HE.out.symm, HBw.out⟩
          · have HYd := Lib.hid hyd
            rw [hyd] at q3
            clear hyd
            go_wp2_with fail
            go_meet
            case rel => exact Lib.hid ⟨rfl, fun _ => by rw [HXd.out, HYd.out]⟩
    case rest =>
      obtain ⟨rfl, hdd⟩ := hcut.out
      have HE := Lib.hid (HA2.out hdd)
      clear hcut hdd HA1 HA2
      go_upto_region 5 with (go_at_call 74; refine HC1.out.mono ?_; rintro e w5 ⟨rfl, hb⟩; have HB5 := Lib.hid hb; clear hb)
      obtain ⟨s0, s1⟩ := HHw.out w5 HB5.out
      have HBf := Lib.hid (below_two HBw.out HB5.out)
      clear p0 p1 p2 p3 q0 q1 q2 q3 h0 h1
      have hik : decide (i < k) = true ∨ decide (i < k) = false := by cases decide (i < k) <;> simp
      cases rev with
      | false =>
        simp only [Bool.false_eq_true, if_false] at HE
        rcases HUn.out with rfl | rfl | rfl
        · go_wp2_with fail
          go_ret
          exact ⟨by rw [HE.out]; rfl, HBf.out⟩
        · go_wp2_with fail
          go_ret
          exact ⟨by rw [HE.out]; simp, HBf.out⟩
        · go_wp2_with fail
          go_ret
          exact ⟨by rw [HE.out]; rfl, HBf.out⟩
      | true =>
        simp only [if_true] at HE
        rcases HUn.out with rfl | rfl | rfl
        · go_wp2_with fail
          go_ret
          exact ⟨by rw [HE.out]; rfl, HBf.out⟩
        · go_wp2_with fail
          go_ret
          exact ⟨by rw [HE.out]; simp, HBf.out⟩
        · go_wp2_with fail
          go_ret
          exact ⟨by rw [HE.out]; rfl, HBf.out⟩
end Go.Proofs.YtfhagjnlliafiaaGreatDoor.O
namespace Go.Proofs.YtfhagjnlliafiaaGreatDoor.O
open Go.Proofs.YtfhagjnlliafiaaGreatDoor.B
open Go.RowKit
section
variable {P : Program} {ops : Array Oper} {Q : Exit → Act → World → Prop} {md : Region.Mode} {S : World → Prop} {z : Nat}
def Till (P : Program) (md : Region.Mode) (ops : Array Oper) (Q : Exit → Act → World → Prop) (S : World → Prop) (z : Nat) : Nat → Array Bool → Act → World → Prop
  | 0 => fun up a w => Region.ready md ops up = [] ∧ Q .normal a w
  | n + 1 => fun up a w => (Region.ready md ops up = [] → Q .normal a w) ∧ ∀ i, i ∈ Region.ready md ops up → wpOp P ops Q i (fun a' w' => (i ≠ z → S w') ∧ Till P md ops Q S z n (up.setIfInBounds i true) a' w') a w
theorem Till.any : ∀ {n : Nat} {up : Array Bool} {a : Act} {w : World}, Till P md ops Q S z n up a w → wpAny P md ops Q n up a w
  | 0, _, _, _, h => h
  | n + 1, _, _, _, h => ⟨h.1, fun i hi => wpOp_mono (fun _ _ q => Till.any q.2) (h.2 i hi)⟩
theorem Till.region {id : Nat} {a : Act} {w : World} (hm : P.follows .mixedOrders = true) (hS : S w.drew) (h : S w.drew → Till P .any ops Q S z ops.size (Array.replicate ops.size false) a w.drew) : (Code.region id ops true).wp P Q a w :=
  wp_region_any hm (Till.any (h hS))
def waitsB (md : Region.Mode) (ops : Array Oper) (z i : Nat) : Bool := match ops[z]? with
  | some o => o.after.any fun e => Region.binds md e && e.on == i
  | none => false
theorem waits_not {i j : Nat} {up : Array Bool} (hz : waitsB md ops z i = true) (hi : i ∈ Region.ready md ops up) (hj : j ∈ Region.ready md ops up) : j ≠ z := by
  rintro rfl
  obtain ⟨_, o, ho, hall⟩ := mem_ready.1 hj
  unfold waitsB at hz
  rw [ho] at hz
  obtain ⟨e, he, hb⟩ := Array.any_eq_true'.1 hz
  simp only [Bool.and_eq_true, beq_iff_eq] at hb
  have h1 := hall e he hb.1
  rw [hb.2] at h1
  have h0 := (mem_ready.1 hi).1
  rcases Nat.lt_or_ge i up.size with q | q
  · simp [q] at h0 h1
    rw [h0] at h1
    cases h1
  · simp [Array.getElem?_eq_none q] at h1
theorem Till.front {i : Nat} {oi : Oper} {v : Value} (hi : ops[i]? = some oi) (hsel : ∀ (j : Nat) (o : Oper) cs b, ops[j]? = some o → o.op ≠ .select cs b) (hQ : ∀ c a w, Q (.panic c) (a.put oi.dst v) w → Q (.panic c) a w) (hz : waitsB md ops z i = true) :
    ∀ (n : Nat) (up : Array Bool) (a : Act) (w : World), (∀ j oj, ops[j]? = some oj → j ≠ i → up.getD j true = false → (∀ e ∈ oj.after, Region.binds md e = true → e.on ≠ i) → oi.apart ops oj = true) → i ∈ Region.ready md ops up → YieldsIf P ops S oi v a → S w →
      Till P md ops Q S z n (up.setIfInBounds i true) (a.put oi.dst v) w → Till P md ops Q S z (n + 1) up a w := by
  have one : ∀ {K : Act → World → Prop} {a : Act} {w : World}, YieldsIf P ops S oi v a → S w → K (a.put oi.dst v) w → wpOp P ops Q i K a w := fun hy hS hK => hy.wpOp hi hS hK
  have none : ∀ {up : Array Bool} {C : Prop}, i ∈ Region.ready md ops up → Region.ready md ops up = [] → C := fun hr h => by rw [h] at hr; cases hr
  intro n
  induction n with
  | zero =>
    intro up a w _ hr hy hS T
    refine ⟨none hr, fun j hj => ?_⟩
    rcases Classical.em (j = i) with e | e
    · rw [e]; exact one hy hS ⟨fun _ => hS, T⟩
    · have m := ready_mono (i := i) hj e
      rw [T.1] at m
      cases m
  | succ n ih =>
    intro up a w hfree hr hy hS T
    refine ⟨none hr, fun j hj => ?_⟩
    rcases Classical.em (j = i) with e | e
    · rw [e]; exact one hy hS ⟨fun _ => hS, T⟩
    · have hjz : j ≠ z := waits_not hz hr hj
      obtain ⟨hup, oj, hoj, hall⟩ := mem_ready.1 hj
      have hun : ∀ d ∈ oj.after, Region.binds md d = true → d.on ≠ i := fun d hd hb q => by
        have h1 := hall d hd hb
        rw [q] at h1
        have h0 := (mem_ready.1 hr).1
        rcases Nat.lt_or_ge i up.size with g | g
        · simp [g] at h0 h1
          rw [h0] at h1
          cases h1
        · simp [Array.getElem?_eq_none g] at h1
      have step := wpOp_putIf hoj (hfree j oj hoj e hup hun) (fun cs b => hsel i oi cs b hi) (fun cs b => hsel j oj cs b hoj) hQ hy (T.2 j (ready_mono hj e))
      refine wpOp_mono (fun a' w' q => ⟨fun _ => q.2.1 hjz, ih _ a' w' (fun k ok hk hki hku hkn => hfree k ok hk hki ?_ hkn) (ready_mono hr (Ne.symm e)) q.1 (q.2.1 hjz) ?_⟩) step
      · rcases Classical.em (j = k) with g | g
        · rw [← g]; exact hup
        · rw [getD_set_ne true g] at hku; exact hku
      · rw [Array.setIfInBounds_comm _ _ e]
        exact q.2.2
theorem Till.take {i : Nat} {oi : Oper} {v : Value} {n : Nat} {up : Array Bool} {a : Act} {w : World} (hi : ops[i]? = some oi) (hs : Region.noSelect ops = true) (hf : Region.free md ops up i = true) (hr : (Region.ready md ops up).contains i = true) (hz : waitsB md ops z i = true)
    (hQ : ∀ c a w, Q (.panic c) (a.put oi.dst v) w → Q (.panic c) a w) (hy : YieldsIf P ops S oi v a) (hS : S w) (h : Till P md ops Q S z n (up.setIfInBounds i true) (a.put oi.dst v) w) : Till P md ops Q S z (n + 1) up a w :=
  Till.front hi (Region.noSelect_spec hs) hQ hz n up a w (Region.free_spec hi hf) (by simpa using hr) hy hS h
theorem Till.tz (i : Nat) {oi : Oper} (v : Value) {n : Nat} {up : Array Bool} {a : Act} {w : World} (hi : ops[i]? = some oi) (hy : ∀ w0, S w0 → (execOp a.eval oi).run P w0 = .ok (.value v) w0) (h : Till P md ops Q S z n (up.setIfInBounds i true) (a.put oi.dst v) w) (hw : Region.wanted oi (yielded ops a.tmps) = true := by rfl) (hs : Region.noSelect ops = true := by kernel_rfl) (hf : Region.free md ops up i = true := by kernel_rfl) (hr : (Region.ready md ops up).contains i = true := by kernel_rfl) (hz : waitsB md ops z i = true := by kernel_rfl)
    (hQ : ∀ c a w, Q (.panic c) (a.put oi.dst v) w → Q (.panic c) a w := by exact fun _ _ _ h => h) (hS : S w := by assumption) : Till P md ops Q S z (n + 1) up a w := Till.take hi hs hf hr hz hQ (Or.inl ⟨hw, hy⟩) hS h
theorem Till.next {i : Nat} {o : Oper} {n : Nat} {up : Array Bool} {a : Act} {w : World} (hr : Region.ready md ops up = [i]) (ho : ops[i]? = some o)
    (h : ∀ K : Act → World → Prop, Shut (∀ a w, (i ≠ z → S w) → Till P md ops Q S z n (up.setIfInBounds i true) a w → K a w) → if Region.wanted o (yielded ops a.tmps) = true then Oper.wp P o a w K Q else K (a.put o.dst undef) w) : Till P md ops Q S z (n + 1) up a w := by
  refine ⟨fun e => absurd e (by rw [hr]; exact List.cons_ne_nil _ _), fun j hj => ?_⟩
  rw [hr] at hj
  obtain rfl := List.mem_singleton.1 hj
  exact wpOp_step ho fun K hK => h K (fun a w hS hT => hK a w ⟨hS, hT⟩)
theorem Till.tn (i : Nat) {o : Oper} {n : Nat} {up : Array Bool} {a : Act} {w : World} (ho : ops[i]? = some o)
    (h : ∀ K : Act → World → Prop, Shut (∀ a w, (i ≠ z → S w) → Till P md ops Q S z n (up.setIfInBounds i true) a w → K a w) → if Region.wanted o (yielded ops a.tmps) = true then Oper.wp P o a w K Q else K (a.put o.dst undef) w) (hr : Region.ready md ops up = [i] := by kernel_rfl) : Till P md ops Q S z (n + 1) up a w := Till.next hr ho h
theorem Till.done {n : Nat} {up : Array Bool} {a : Act} {w : World} (hr : Region.ready md ops up = []) (h : Q .normal a w) : Till P md ops Q S z n up a w := by
  match n with
  | 0 => exact And.intro hr h
  | n + 1 =>
    refine ⟨fun _ => h, fun i hi => ?_⟩
    rw [hr] at hi
    cases hi
theorem Till.two {i j : Nat} {o o' : Oper} {n : Nat} {up : Array Bool} {a : Act} {w : World} (hr : Region.ready md ops up = [i, j]) (ho : ops[i]? = some o) (ho' : ops[j]? = some o')
    (h : ∀ K : Act → World → Prop, Shut (∀ a w, (i ≠ z → S w) → Till P md ops Q S z n (up.setIfInBounds i true) a w → K a w) → if Region.wanted o (yielded ops a.tmps) = true then Oper.wp P o a w K Q else K (a.put o.dst undef) w)
    (h' : ∀ K : Act → World → Prop, Shut (∀ a w, (j ≠ z → S w) → Till P md ops Q S z n (up.setIfInBounds j true) a w → K a w) → if Region.wanted o' (yielded ops a.tmps) = true then Oper.wp P o' a w K Q else K (a.put o'.dst undef) w) : Till P md ops Q S z (n + 1) up a w := by
  refine ⟨fun e => absurd e (by rw [hr]; exact List.cons_ne_nil _ _), fun k hk => ?_⟩
  rw [hr] at hk
  have hk2 : k = i ∨ k = j := by simpa using hk
  rcases hk2 with q | q
  · rw [q]; exact wpOp_step ho fun K hK => h K (fun a w hS hT => hK a w ⟨hS, hT⟩)
  · rw [q]; exact wpOp_step ho' fun K hK => h' K (fun a w hS hT => hK a w ⟨hS, hT⟩)
theorem Till.frontA {i : Nat} {oi : Oper} {v : Value} (hi : ops[i]? = some oi) (hsel : ∀ (j : Nat) (o : Oper) cs b, ops[j]? = some o → o.op ≠ .select cs b) (hQ : ∀ c a w, Q (.panic c) (a.put oi.dst v) w → Q (.panic c) a w) (hz : ops[z]? = none) :
    ∀ (n : Nat) (up : Array Bool) (a : Act) (w : World), (∀ j oj, ops[j]? = some oj → j ≠ i → up.getD j true = false → (∀ e ∈ oj.after, Region.binds md e = true → e.on ≠ i) → oi.apart ops oj = true) → i ∈ Region.ready md ops up → YieldsIf P ops S oi v a → S w →
      Till P md ops Q S z n (up.setIfInBounds i true) (a.put oi.dst v) w → Till P md ops Q S z (n + 1) up a w := by
  have one : ∀ {K : Act → World → Prop} {a : Act} {w : World}, YieldsIf P ops S oi v a → S w → K (a.put oi.dst v) w → wpOp P ops Q i K a w := fun hy hS hK => hy.wpOp hi hS hK
  have none : ∀ {up : Array Bool} {C : Prop}, i ∈ Region.ready md ops up → Region.ready md ops up = [] → C := fun hr h => by rw [h] at hr; cases hr
  intro n
  induction n with
  | zero =>
    intro up a w _ hr hy hS T
    refine ⟨none hr, fun j hj => ?_⟩
    rcases Classical.em (j = i) with e | e
    · rw [e]; exact one hy hS ⟨fun _ => hS, T⟩
    · have m := ready_mono (i := i) hj e
      rw [T.1] at m
      cases m
  | succ n ih =>
    intro up a w hfree hr hy hS T
    refine ⟨none hr, fun j hj => ?_⟩
    rcases Classical.em (j = i) with e | e
    · rw [e]; exact one hy hS ⟨fun _ => hS, T⟩
    · obtain ⟨hup, oj, hoj, hall⟩ := mem_ready.1 hj
      have hjz : j ≠ z := fun q => by
        rw [q, hz] at hoj
        cases hoj
      have hun : ∀ d ∈ oj.after, Region.binds md d = true → d.on ≠ i := fun d hd hb q => by
        have h1 := hall d hd hb
        rw [q] at h1
        have h0 := (mem_ready.1 hr).1
        rcases Nat.lt_or_ge i up.size with g | g
        · simp [g] at h0 h1
          rw [h0] at h1
          cases h1
        · simp [Array.getElem?_eq_none g] at h1
      have step := wpOp_putIf hoj (hfree j oj hoj e hup hun) (fun cs b => hsel i oi cs b hi) (fun cs b => hsel j oj cs b hoj) hQ hy (T.2 j (ready_mono hj e))
      refine wpOp_mono (fun a' w' q => ⟨fun _ => q.2.1 hjz, ih _ a' w' (fun k ok hk hki hku hkn => hfree k ok hk hki ?_ hkn) (ready_mono hr (Ne.symm e)) q.1 (q.2.1 hjz) ?_⟩) step
      · rcases Classical.em (j = k) with g | g
        · rw [← g]; exact hup
        · rw [getD_set_ne true g] at hku; exact hku
      · rw [Array.setIfInBounds_comm _ _ e]
        exact q.2.2
theorem Till.takeA {i : Nat} {oi : Oper} {v : Value} {n : Nat} {up : Array Bool} {a : Act} {w : World} (hi : ops[i]? = some oi) (hs : Region.noSelect ops = true) (hf : Region.free md ops up i = true) (hr : (Region.ready md ops up).contains i = true) (hz : ops[z]? = none)
    (hQ : ∀ c a w, Q (.panic c) (a.put oi.dst v) w → Q (.panic c) a w) (hy : YieldsIf P ops S oi v a) (hS : S w) (h : Till P md ops Q S z n (up.setIfInBounds i true) (a.put oi.dst v) w) : Till P md ops Q S z (n + 1) up a w :=
  Till.frontA hi (Region.noSelect_spec hs) hQ hz n up a w (Region.free_spec hi hf) (by simpa using hr) hy hS h
theorem Till.tk (i : Nat) {oi : Oper} (v : Value) {n : Nat} {up : Array Bool} {a : Act} {w : World} (hi : ops[i]? = some oi) (hy : ∀ w0, S w0 → (execOp a.eval oi).run P w0 = .ok (.value v) w0) (h : Till P md ops Q S z n (up.setIfInBounds i true) (a.put oi.dst v) w) (hw : Region.wanted oi (yielded ops a.tmps) = true := by rfl) (hs : Region.noSelect ops = true := by kernel_rfl) (hf : Region.free md ops up i = true := by kernel_rfl) (hr : (Region.ready md ops up).contains i = true := by kernel_rfl) (hz : ops[z]? = none := by kernel_rfl)
    (hQ : ∀ c a w, Q (.panic c) (a.put oi.dst v) w → Q (.panic c) a w := by exact fun _ _ _ h => h) (hS : S w := by assumption) : Till P md ops Q S z (n + 1) up a w := Till.takeA hi hs hf hr hz hQ (Or.inl ⟨hw, hy⟩) hS h
theorem Till.tu (i : Nat) {oi : Oper} {n : Nat} {up : Array Bool} {a : Act} {w : World} (hi : ops[i]? = some oi) (h : Till P md ops Q S z n (up.setIfInBounds i true) (a.put oi.dst undef) w) (hw : Region.wanted oi (yielded ops a.tmps) = false := by rfl) (hs : Region.noSelect ops = true := by kernel_rfl) (hf : Region.free md ops up i = true := by kernel_rfl) (hr : (Region.ready md ops up).contains i = true := by kernel_rfl) (hz : ops[z]? = none := by kernel_rfl)
    (hQ : ∀ c a w, Q (.panic c) (a.put oi.dst undef) w → Q (.panic c) a w := by exact fun _ _ _ h => h) (hS : S w := by assumption) : Till P md ops Q S z (n + 1) up a w := Till.takeA hi hs hf hr hz hQ (Or.inr ⟨hw, rfl⟩) hS h
end
end Go.Proofs.YtfhagjnlliafiaaGreatDoor.O
namespace Go.Proofs.YtfhagjnlliafiaaGreatDoor.O
open Go.Proofs.YtfhagjnlliafiaaGreatDoor.B
open Go.RowKit
def KyAt (W : World) (g : Nat) (k : Ky) : Prop := W.cell? ⟨g, 0, none⟩ = some (.string k.name) ∧ W.cell? ⟨g, 1, none⟩ = some (.int .i64 k.size) ∧ W.cell? ⟨g, 2, none⟩ = some (.int .i64 k.time) ∧ W.cell? ⟨g, 3, none⟩ = some (.bool k.dir)
theorem ky_at {w2 : World} {g : Nat} {k : Ky} (h : w2.heap[g]? = some (.cells #[.string k.name, .int .i64 k.size, .int .i64 k.time, .bool k.dir] 70 (0, 0))) : ∀ W, Below w2.heap.size w2 W → KyAt W g k := fun W hW => by
  have q := (hW.block _ (heap_lt h)).trans h
  refine ⟨?_, ?_, ?_, ?_⟩ <;> (rw [cell_of_row _ _ _ _ _ _ q]; rfl)
theorem palone_any (o : Int) (a b : Ky) (w : World) (ha : a.name.size ≤ 60000) (hb : b.name.size ≤ 60000) :
    Calls Tryz.prog 125 #[.int .i64 o, kyV a, kyV b] w fun e w' => e = .returned (.int .i64 (ordC o a b)) ∧ Below w.heap.size w w' := by
  have HLe := Lib.hid (fun W => scmp_any (mkB (extL a.name.data.toList)) (mkB (extL b.name.data.toList)) W)
  have HVe := Lib.hid (fun W => over_any' a.name b.name W ha hb)
  have HN1 := Lib.hid (fun W => cint64_any b.size a.size W)
  have HN2 := Lib.hid (fun W => cint64_any b.time a.time W)
  simp only [mkB_list] at HLe
  have HO := Lib.hid (show ordC o a b = if o = 1 then cmpI b.size a.size else if o = 2 then cmpI b.time a.time else if o = 3 then lessL (extL a.name.data.toList) (extL b.name.data.toList) else if o = 4 then verL a.name.data.toList b.name.data.toList else 0 from rfl)
  generalize ordC o a b = C at HO ⊢
  unfold kyV
  go_enter Tryz.func125, Tryz.ntmps125
  go_upto_region 1 with fail
  obtain ⟨X1, X2, XB⟩ := two_boxes' w #[.string a.name, .int .i64 a.size, .int .i64 a.time, .bool a.dir] #[.string b.name, .int .i64 b.size, .int .i64 b.time, .bool b.dir] 70
  have HKa := Lib.hid (ky_at X1)
  have HKb := Lib.hid (ky_at X2)
  have HB := Lib.hid XB
  have HSz := Lib.hid XB.size
  clear X1 X2 XB
  generalize (w.alloc (.cells #[.string a.name, .int .i64 a.size, .int .i64 a.time, .bool a.dir] 70)).alloc (.cells #[.string b.name, .int .i64 b.size, .int .i64 b.time, .bool b.dir] 70) = w2 at HKa HKb HB HSz ⊢
  obtain ⟨gA, hgA⟩ : ∃ g, w.heap.size = g := ⟨_, rfl⟩
  have HgA := Lib.hid hgA
  rw [hgA] at HKa HKb HB HSz ⊢
  clear hgA
  generalize gA + 1 = gB at HKb ⊢
  obtain ⟨a0, a1, a2, a3⟩ := HKa.out w2 (Below.refl _ _)
  obtain ⟨b0, b1, b2, b3⟩ := HKb.out w2 (Below.refl _ _)
  by_cases o1 : o = 1
  · rw [if_pos o1] at HO
    have d1 : (o == 1) = true := beq_iff_eq.2 o1
    clear o1
    go_wp2_with (go_at_call 146; refine (HN1.out _).mono ?_; rintro e w3 ⟨rfl, hw⟩; subst hw)
    go_ret
    exact ⟨ret_int HO.out.symm, by rw [HgA.out]; exact HB.out⟩
  · rw [if_neg o1] at HO
    have d1 : (o == 1) = false := beq_eq_false_iff_ne.2 o1
    clear o1
    by_cases o2 : o = 2
    · rw [if_pos o2] at HO
      have d2 : (o == 2) = true := beq_iff_eq.2 o2
      clear o2
      go_wp2_with (go_at_call 146; refine (HN2.out _).mono ?_; rintro e w3 ⟨rfl, hw⟩; subst hw)
      go_ret
      exact ⟨ret_int HO.out.symm, by rw [HgA.out]; exact HB.out⟩
    · rw [if_neg o2] at HO
      have d2 : (o == 2) = false := beq_eq_false_iff_ne.2 o2
      clear o2
      by_cases o3 : o = 3
      · rw [if_pos o3] at HO
        have d3 : (o == 3) = true := beq_iff_eq.2 o3
        clear o3
        have aq : ∀ n, (w2.drewN n).cell? ⟨gA, 0, none⟩ = some (.string a.name) := fun n => (HKa.out _ (below_drewNb (Below.refl _ _))).1
        have bq : ∀ n, (w2.drewN n).cell? ⟨gB, 0, none⟩ = some (.string b.name) := fun n => (HKb.out _ (below_drewNb (Below.refl _ _))).1
        go_upto_region 7 with fail
        go_quiet (first
          | (go_at_call 126; refine Calls.quiet_of_same (HLe.out _))
          | (go_at_call 147; refine Calls.quiet_of_same (pext_any _ _ (by first | exact ha | exact hb))))
        have HBd := Lib.hid (show Below gA w (w2.drewN nq) from below_drewNb HB.out)
        generalize w2.drewN nq = w3 at HBd ⊢
        go_wp2
        go_ret
        exact ⟨ret_int HO.out.symm, by rw [HgA.out]; exact HBd.out⟩
      · rw [if_neg o3] at HO
        have d3 : (o == 3) = false := beq_eq_false_iff_ne.2 o3
        clear o3
        by_cases o4 : o = 4
        · rw [if_pos o4] at HO
          have d4 : (o == 4) = true := beq_iff_eq.2 o4
          clear o4
          go_wp2_with (go_at_call 148; refine (HVe.out _).mono ?_; rintro e w3 ⟨rfl, hb⟩; have HB3 := Lib.hid (HB.out.trans (hb.mono HSz.out)); clear hb)
          go_ret
          exact ⟨ret_int HO.out.symm, by rw [HgA.out]; exact HB3.out⟩
        · rw [if_neg o4] at HO
          have d4 : (o == 4) = false := beq_eq_false_iff_ne.2 o4
          clear o4
          go_wp2_with fail
          go_ret
          exact ⟨ret_int HO.out.symm, by rw [HgA.out]; exact HB.out⟩
theorem pcompare_any (o : Int) (a b : Ky) (w : World) (ha : a.name.size ≤ 60000) (hb : b.name.size ≤ 60000) :
    Calls Tryz.prog 98 #[.int .i64 o, kyV a, kyV b] w fun e w' => e = .returned (.int .i64 (cmpK o a b)) ∧ Below w.heap.size w w' := by
  have HA := Lib.hid (fun W => palone_any o a b W ha hb)
  have HS := Lib.hid (fun W => scmp_any a.name b.name W)
  have HC := Lib.hid (show cmpK o a b = if ordC o a b = 0 then nameC a b else ordC o a b from rfl)
  have HNm := Lib.hid (show nameC a b = lessL a.name.data.toList b.name.data.toList from rfl)
  rw [HNm.out] at HC
  clear HNm
  generalize ordC o a b = C at HC HA
  generalize cmpK o a b = R at HC ⊢
  generalize lessL a.name.data.toList b.name.data.toList = L at HC HS
  unfold kyV at HA ⊢
  go_enter Tryz.func98, Tryz.ntmps98
  go_upto_region 1 with fail
  obtain ⟨X1, X2, XB⟩ := two_boxes' w #[.string a.name, .int .i64 a.size, .int .i64 a.time, .bool a.dir] #[.string b.name, .int .i64 b.size, .int .i64 b.time, .bool b.dir] 70
  have HKa := Lib.hid (ky_at X1)
  have HKb := Lib.hid (ky_at X2)
  have HB := Lib.hid XB
  have HSz := Lib.hid XB.size
  clear X1 X2 XB
  generalize (w.alloc (.cells #[.string a.name, .int .i64 a.size, .int .i64 a.time, .bool a.dir] 70)).alloc (.cells #[.string b.name, .int .i64 b.size, .int .i64 b.time, .bool b.dir] 70) = w2 at HKa HKb HB HSz ⊢
  obtain ⟨gA, hgA⟩ : ∃ g, w.heap.size = g := ⟨_, rfl⟩
  have HgA := Lib.hid hgA
  rw [hgA] at HKa HKb HB HSz ⊢
  clear hgA
  generalize gA + 1 = gB at HKb ⊢
  refine Till.region (z := 1000) (S := fun w' => Below w2.heap.size w2 w') (by kernel_rfl) ((Below.refl _ _).drew) (fun hHeld => ?_)
  refine Till.tk 0 (.int .i64 o) rfl (fun w0 hS0 => ?_) ?_
  · go_simp
  try simp only [u, lt, l0, ls]
  refine Till.tk 1 (.agg #[.string a.name, .int .i64 a.size, .int .i64 a.time, .bool a.dir]) rfl (fun w0 hS0 => ?_) ?_
  · obtain ⟨r0, r1, r2, r3⟩ := HKa.out _ hS0; go_simp
  try simp only [u, lt, l0, ls]
  refine Till.tk 2 (.agg #[.string b.name, .int .i64 b.size, .int .i64 b.time, .bool b.dir]) rfl (fun w0 hS0 => ?_) ?_
  · obtain ⟨r0, r1, r2, r3⟩ := HKb.out _ hS0; go_simp
  try simp only [u, lt, l0, ls]
  refine Till.tk 4 (.pointer (some ⟨gA, 0, none⟩)) rfl (fun w0 hS0 => ?_) ?_
  · go_simp
  try simp only [u, lt, l0, ls]
  refine Till.tk 5 (.string a.name) rfl (fun w0 hS0 => ?_) ?_
  · obtain ⟨r0, r1, r2, r3⟩ := HKa.out _ hS0; go_simp
  try simp only [u, lt, l0, ls]
  refine Till.tk 6 (.pointer (some ⟨gB, 0, none⟩)) rfl (fun w0 hS0 => ?_) ?_
  · go_simp
  try simp only [u, lt, l0, ls]
  refine Till.tk 7 (.string b.name) rfl (fun w0 hS0 => ?_) ?_
  · obtain ⟨r0, r1, r2, r3⟩ := HKb.out _ hS0; go_simp
  try simp only [u, lt, l0, ls]
  refine Till.tn 3 rfl fun K hK => ?_
  go_simp
  refine (HA.out _).mono ?_
  rintro e w3 ⟨rfl, hb3⟩
  have hHeld3 : Below w2.heap.size w2 w3 := below_two hHeld hb3
  clear hb3
  go_wp2_with fail
  refine hK.out _ _ (fun _ => hHeld3) ?_
  clear hK K
  try simp only [u, lt, l0, ls]
  refine Till.tn 8 rfl fun K hK => ?_
  go_simp
  refine (HS.out _).mono ?_
  rintro e w4 ⟨rfl, hw⟩
  subst hw
  go_wp2_with fail
  refine hK.out _ _ (fun _ => hHeld3) ?_
  clear hK K
  try simp only [u, lt, l0, ls]
  refine Till.tn 9 rfl fun K hK => ?_
  go_simp
  refine hK.out _ _ (fun _ => hHeld3.alloc hHeld3.size _) ?_
  clear hK K
  try simp only [u, lt, l0, ls]
  refine Till.tn 10 rfl fun K hK => ?_
  go_simp
  refine (cor2_any C L R _ HC.out).mono ?_
  rintro e w5 ⟨rfl, hb5⟩
  have hHeld5 : Below w2.heap.size w2 w5 := below_two hHeld3 hb5
  clear hb5
  go_wp2_with fail
  refine hK.out _ _ (fun _ => hHeld5) ?_
  clear hK K
  try simp only [u, lt, l0, ls]
  refine Till.tk 11 (oi := ⟨some 6, .assign (.tmp 17), 3, "order.go:29", #[⟨10, .data⟩, ⟨10, .chain⟩, ⟨0, .phase⟩, ⟨1, .phase⟩, ⟨2, .phase⟩, ⟨3, .phase⟩, ⟨4, .phase⟩, ⟨5, .phase⟩, ⟨6, .phase⟩, ⟨7, .phase⟩, ⟨8, .phase⟩, ⟨9, .phase⟩, ⟨10, .phase⟩], none⟩) (.int .i64 R) rfl (fun w0 hS0 => ?_) ?_
  · go_simp
  try simp only [u, lt, l0, ls]
  refine Till.done (by kernel_rfl) ?_
  go_wp2
  go_ret
  exact ⟨rfl, by rw [HgA.out]; exact HB.out.trans (hHeld5.mono HSz.out)⟩
end Go.Proofs.YtfhagjnlliafiaaGreatDoor.O
