/-
  What the reference's ahead returns. Conditions: the keys lie in memory, with names of at most 60000 bytes.
-/
import Derived.Test.YteeddednonmglaaDoorOKeys
set_option linter.unusedVariables false
namespace Go.Proofs.YteeddednonmglaaDoor
open Go.RowKit

theorem getD_at {l : List Ky} {i : Nat} {x : Ky} (h : l[i]? = some x) : l.getD i noKy = x := by rw [List.getD_eq_getElem?_getD, h]; rfl
theorem ahead_dirs {o : Int} {rev dirs : Bool} {l : List Ky} {i k : Nat} {x y : Ky} (hx : l[i]? = some x) (hy : l[k]? = some y) (hd : dirs = true) (hn : x.dir ≠ y.dir) : aheadL (soC o rev dirs) l i k = x.dir := by
  unfold aheadL soC thenC dirC
  rw [getD_at hx, getD_at hy, hd]
  simp only [if_true]
  cases hxd : x.dir <;> cases hyd : y.dir
  · rw [hxd, hyd] at hn; exact absurd rfl hn
  · rfl
  · rfl
  · rw [hxd, hyd] at hn; exact absurd rfl hn
theorem ahead_same {o : Int} {rev dirs : Bool} {l : List Ky} {i k : Nat} {x y : Ky} (hx : l[i]? = some x) (hy : l[k]? = some y) (hd : dirs = true → x.dir = y.dir) : aheadL (soC o rev dirs) l i k = (decide ((if rev = true then -cmpK o x y else cmpK o x y) < 0) || (decide ((if rev = true then -cmpK o x y else cmpK o x y) = 0) && decide (i < k))) := by
  have e : soC o rev dirs x y = if rev = true then -cmpK o x y else cmpK o x y := by
    have h0 : dirC dirs x y = 0 := by
      unfold dirC
      split
      · rename_i q
        rw [hd q]
        exact cmpI_tot.self _
      · rfl
    unfold soC thenC
    rw [if_pos h0]
    unfold revC
    cases rev with
    | false => rfl
    | true => exact (cmpK_tot o).anti x y
  unfold aheadL
  rw [getD_at hx, getD_at hy, e]

theorem two_boxes' (w : World) (A B : Array Value) (e : TypeId) : ((w.alloc (.cells A e)).alloc (.cells B e)).heap[w.heap.size]? = some (.cells A e (0, 0)) ∧ ((w.alloc (.cells A e)).alloc (.cells B e)).heap[w.heap.size + 1]? = some (.cells B e (0, 0)) ∧ Below w.heap.size w ((w.alloc (.cells A e)).alloc (.cells B e)) := by
  refine ⟨?_, ?_, ((Below.refl _ _).alloc (Nat.le_refl _) _).alloc (by simp) _⟩
  · have h1 := heap_alloc_new w (.cells A e)
    have h2 : Below (w.heap.size + 1) (w.alloc (.cells A e)) ((w.alloc (.cells A e)).alloc (.cells B e)) := (Below.refl _ _).alloc (by simp) _
    exact (h2.block _ (by omega)).trans h1
  · have h1 := heap_alloc_new (w.alloc (.cells A e)) (.cells B e)
    rwa [show (w.alloc (.cells A e)).heap.size = w.heap.size + 1 from by simp] at h1
theorem two_boxes (w : World) (A B : Array Value) (e : TypeId) : (((w.alloc (.cells A e)).alloc (.cells B e)).drew).heap[w.heap.size]? = some (.cells A e (0, 0)) ∧ (((w.alloc (.cells A e)).alloc (.cells B e)).drew).heap[w.heap.size + 1]? = some (.cells B e (0, 0)) ∧ Below w.heap.size w (((w.alloc (.cells A e)).alloc (.cells B e)).drew) := by
  refine ⟨?_, ?_, (((Below.refl _ _).alloc (Nat.le_refl _) _).alloc (by simp) _).drew⟩
  · have h1 := heap_alloc_new w (.cells A e)
    have h2 : Below (w.heap.size + 1) (w.alloc (.cells A e)) ((w.alloc (.cells A e)).alloc (.cells B e)) := (Below.refl _ _).alloc (by simp) _
    exact (h2.block _ (by omega)).trans h1
  · have h1 := heap_alloc_new (w.alloc (.cells A e)) (.cells B e)
    rwa [show (w.alloc (.cells A e)).heap.size = w.heap.size + 1 from by simp] at h1
set_option maxRecDepth 100000 in
set_option maxHeartbeats 8000000 in
theorem rahead_any (o : Int) (rev dirs : Bool) (l : List Ky) (a : Option Addr) (cap : Nat) (i k : Nat) (w : World) (H : IsKeys w a l) (hl : l.length ≤ 1000000) (hz : ∀ c ∈ l, c.name.size ≤ 60000) (hi : i < l.length) (hk : k < l.length) :
    Calls Tryd.prog 31 #[.int .i64 o, .agg #[.bool rev, .bool dirs], .slice a l.length cap, .int .i64 (i : Int), .int .i64 (k : Int)] w fun e w' => e = .returned (.bool (aheadL (soC o rev dirs) l i k)) ∧ Below w.heap.size w w' := by
  obtain ⟨x, hx⟩ : ∃ x, l[i]? = some x := ⟨_, List.getElem?_eq_getElem hi⟩
  obtain ⟨y, hy⟩ : ∃ y, l[k]? = some y := ⟨_, List.getElem?_eq_getElem hk⟩
  have HCx := Lib.hid (rcompare_any o x y · (hz x (List.mem_of_getElem? hx)) (hz y (List.mem_of_getElem? hy)))
  have HA1 := Lib.hid (fun h h2 => ahead_dirs (o := o) (rev := rev) (dirs := dirs) hx hy h h2)
  have HA2 := Lib.hid (fun h => ahead_same (o := o) (rev := rev) (dirs := dirs) hx hy h)
  have HUn := Lib.hid ((cmpK_tot o).unit x y)
  generalize cmpK o x y = C at HCx HA2 HUn
  generalize aheadL (soC o rev dirs) l i k = R at HA1 HA2 ⊢
  obtain ⟨g, of, rfl, hg, hr1⟩ := H.at_ hx
  obtain ⟨g2, of2, e2, _, hr2⟩ := H.at_ hy
  simp only [Option.some.injEq, Addr.mk.injEq] at e2
  obtain ⟨rfl, rfl, _⟩ := e2
  have HRx := Lib.hid (show ∀ W, Below w.heap.size w W → W.cell? ⟨g, of + i * 4, none⟩ = some (.string x.name) ∧ W.cell? ⟨g, of + i * 4 + 1, none⟩ = some (.int .i64 x.size) ∧ W.cell? ⟨g, of + i * 4 + 2, none⟩ = some (.int .i64 x.time) ∧ W.cell? ⟨g, of + i * 4 + 3, none⟩ = some (.bool x.dir) from fun W hb =>
    ⟨(hb.cell (p := ⟨g, _, none⟩) hg).trans (hr1 0 _ rfl), (hb.cell (p := ⟨g, _, none⟩) hg).trans (hr1 1 _ rfl), (hb.cell (p := ⟨g, _, none⟩) hg).trans (hr1 2 _ rfl), (hb.cell (p := ⟨g, _, none⟩) hg).trans (hr1 3 _ rfl)⟩)
  have HRy := Lib.hid (show ∀ W, Below w.heap.size w W → W.cell? ⟨g, of + k * 4, none⟩ = some (.string y.name) ∧ W.cell? ⟨g, of + k * 4 + 1, none⟩ = some (.int .i64 y.size) ∧ W.cell? ⟨g, of + k * 4 + 2, none⟩ = some (.int .i64 y.time) ∧ W.cell? ⟨g, of + k * 4 + 3, none⟩ = some (.bool y.dir) from fun W hb =>
    ⟨(hb.cell (p := ⟨g, _, none⟩) hg).trans (hr2 0 _ rfl), (hb.cell (p := ⟨g, _, none⟩) hg).trans (hr2 1 _ rfl), (hb.cell (p := ⟨g, _, none⟩) hg).trans (hr2 2 _ rfl), (hb.cell (p := ⟨g, _, none⟩) hg).trans (hr2 3 _ rfl)⟩)
  clear hr1 hr2 hx hy hz H
  go_enter Tryd.func31, Tryd.ntmps31
  go_upto_region 1 with fail
  have HX1 := Lib.hid (heap_alloc_new w (.cells #[.bool rev, .bool dirs] 34))
  have HB1 := Lib.hid (show Below w.heap.size w (w.alloc (.cells #[.bool rev, .bool dirs] 34)) from (Below.refl _ _).alloc (Nat.le_refl _) _)
  have hg1 : g < (w.alloc (.cells #[.bool rev, .bool dirs] 34)).heap.size := by simp; omega
  generalize w.alloc (.cells #[.bool rev, .bool dirs] 34) = w1 at HX1 HB1 hg1 ⊢
  go_cut [11, 12] from 14 to 21 (fun v11 v12 wx => ∃ p q : Nat, v11 = .pointer (some ⟨p, 0, none⟩) ∧ v12 = .pointer (some ⟨q, 0, none⟩) ∧ Hid (wx.heap[p]? = some (.cells #[.string x.name, .int .i64 x.size, .int .i64 x.time, .bool x.dir] 26 (0, 0)) ∧ wx.heap[q]? = some (.cells #[.string y.name, .int .i64 y.size, .int .i64 y.time, .bool y.dir] 26 (0, 0))) ∧ Hid (Below w1.heap.size w1 wx))
  case first =>
    obtain ⟨x0, x1, x2, x3⟩ := HRx.out w1.drew HB1.out.drew
    obtain ⟨y0, y1, y2, y3⟩ := HRy.out w1.drew HB1.out.drew
    obtain ⟨z0, z1, z2, z3⟩ := HRx.out w1 HB1.out
    obtain ⟨t0, t1, t2, t3⟩ := HRy.out w1 HB1.out
    go_region
    all_goals go_wp2
    all_goals go_meet
    · obtain ⟨k1, k2, k3⟩ := two_boxes w1 #[.string x.name, .int .i64 x.size, .int .i64 x.time, .bool x.dir] #[.string y.name, .int .i64 y.size, .int .i64 y.time, .bool y.dir] 26
      exact ⟨_, _, rfl, rfl, Lib.hid ⟨k1, k2⟩, Lib.hid k3⟩
    · obtain ⟨k1, k2, k3⟩ := two_boxes w1 #[.string y.name, .int .i64 y.size, .int .i64 y.time, .bool y.dir] #[.string x.name, .int .i64 x.size, .int .i64 x.time, .bool x.dir] 26
      exact ⟨_, _, rfl, rfl, Lib.hid ⟨k2, k1⟩, Lib.hid k3⟩
  case rest =>
    obtain ⟨p, q, rfl, rfl, HH, HBc⟩ := hcut
    obtain ⟨hp, hq⟩ := HH.out
    have HPk := Lib.hid (show ∀ W, Below wc.heap.size wc W → W.cell? ⟨p, 0, none⟩ = some (.string x.name) ∧ W.cell? ⟨p, 1, none⟩ = some (.int .i64 x.size) ∧ W.cell? ⟨p, 2, none⟩ = some (.int .i64 x.time) ∧ W.cell? ⟨p, 3, none⟩ = some (.bool x.dir) from fun W hW => by
      have z := (hW.block _ (heap_lt hp)).trans hp
      refine ⟨?_, ?_, ?_, ?_⟩ <;> (rw [cell_of_row _ _ _ _ _ _ z]; rfl))
    have HQk := Lib.hid (show ∀ W, Below wc.heap.size wc W → W.cell? ⟨q, 0, none⟩ = some (.string y.name) ∧ W.cell? ⟨q, 1, none⟩ = some (.int .i64 y.size) ∧ W.cell? ⟨q, 2, none⟩ = some (.int .i64 y.time) ∧ W.cell? ⟨q, 3, none⟩ = some (.bool y.dir) from fun W hW => by
      have z := (hW.block _ (heap_lt hq)).trans hq
      refine ⟨?_, ?_, ?_, ?_⟩ <;> (rw [cell_of_row _ _ _ _ _ _ z]; rfl))
    have HHw := Lib.hid (show ∀ W, Below wc.heap.size wc W → W.cell? ⟨w.heap.size, 0, none⟩ = some (.bool rev) ∧ W.cell? ⟨w.heap.size, 1, none⟩ = some (.bool dirs) from fun W hW => by
      have z := ((below_two HBc.out hW).block _ (heap_lt HX1.out)).trans HX1.out
      refine ⟨?_, ?_⟩ <;> (rw [cell_of_row _ _ _ _ _ _ z]; rfl))
    have HBw := Lib.hid (HB1.out.trans (HBc.out.mono HB1.out.size))
    clear hp hq HH HRx HRy HX1
    obtain ⟨p0, p1, p2, p3⟩ := HPk.out wc (Below.refl _ _)
    obtain ⟨q0, q1, q2, q3⟩ := HQk.out wc (Below.refl _ _)
    obtain ⟨h0, h1⟩ := HHw.out wc (Below.refl _ _)
    have HC1 := Lib.hid (HCx.out wc)
    unfold kyV at HC1
    iterate 2 go_step
    go_cut [] from 22 to 30 (fun wx => Hid (wc = wx ∧ (dirs = true → x.dir = y.dir)))
    case first =>
      have bb : ∀ b : Bool, b = false ∨ b = true := fun b => by cases b <;> simp
      rcases bb dirs with hd | hd
      · have HDd := Lib.hid hd
        rw [hd] at h1
        clear hd
        go_wp2_with fail
        go_meet
        case rel => exact Lib.hid ⟨rfl, fun z => by rw [HDd.out] at z; cases z⟩
      · have HDd := Lib.hid hd
        rw [hd] at h1
        clear hd
        rcases bb x.dir with hxd | hxd
        · have HXd := Lib.hid hxd
          rw [hxd] at p3
          clear hxd
          rcases bb y.dir with hyd | hyd
          · have HYd := Lib.hid hyd
            rw [hyd] at q3
            clear hyd
            go_wp2_with fail
            go_meet
            case rel => exact Lib.hid ⟨rfl, fun _ => by rw [HXd.out, HYd.out]⟩
          · have HE := Lib.hid (show R = false from by rw [HA1.out HDd.out (by rw [HXd.out, hyd]; decide), HXd.out])
            rw [hyd] at q3
            clear hyd
            go_wp2_with fail
            go_ret
            exact ⟨ret_bool HE.out.symm, HBw.out⟩
        · have HXd := Lib.hid hxd
          rw [hxd] at p3
          clear hxd
          rcases bb y.dir with hyd | hyd
          · have HE := Lib.hid (show R = true from by rw [HA1.out HDd.out (by rw [HXd.out, hyd]; decide), HXd.out])
            rw [hyd] at q3
            clear hyd
            go_wp2_with fail
            go_ret
            exact ⟨ret_bool HE.out.symm, HBw.out⟩
          · have HYd := Lib.hid hyd
            rw [hyd] at q3
            clear hyd
            go_wp2_with fail
            go_meet
            case rel => exact Lib.hid ⟨rfl, fun _ => by rw [HXd.out, HYd.out]⟩
    case rest =>
      obtain ⟨rfl, hdd⟩ := hcut.out
      have HE := Lib.hid (HA2.out hdd)
      clear hcut hdd HA1 HA2
      go_upto_region 5 with (go_at_call 12; refine HC1.out.mono ?_; rintro e w5 ⟨rfl, hb⟩; have HB5 := Lib.hid hb; clear hb)
      obtain ⟨s0, s1⟩ := HHw.out w5 HB5.out
      have HBf := Lib.hid (below_two HBw.out HB5.out)
      clear p0 p1 p2 p3 q0 q1 q2 q3 h0 h1
      have hik : decide (i < k) = true ∨ decide (i < k) = false := by cases decide (i < k) <;> simp
      cases rev with
      | false =>
        simp only [Bool.false_eq_true, if_false] at HE
        rcases HUn.out with rfl | rfl | rfl
        · go_wp2_with fail
          go_ret
          exact ⟨by rw [HE.out]; rfl, HBf.out⟩
        · go_wp2_with fail
          go_ret
          exact ⟨by rw [HE.out]; simp, HBf.out⟩
        · go_wp2_with fail
          go_ret
          exact ⟨by rw [HE.out]; rfl, HBf.out⟩
      | true =>
        simp only [if_true] at HE
        rcases HUn.out with rfl | rfl | rfl
        · go_wp2_with fail
          go_ret
          exact ⟨by rw [HE.out]; rfl, HBf.out⟩
        · go_wp2_with fail
          go_ret
          exact ⟨by rw [HE.out]; simp, HBf.out⟩
        · go_wp2_with fail
          go_ret
          exact ⟨by rw [HE.out]; rfl, HBf.out⟩
end Go.Proofs.YteeddednonmglaaDoor
