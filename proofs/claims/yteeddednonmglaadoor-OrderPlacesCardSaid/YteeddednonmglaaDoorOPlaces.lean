/-
  That the law OrderPlaces returns true. Conditions: what came in lies in memory.
-/
import Derived.Test.YteeddednonmglaaDoorOTurns
set_option linter.unusedVariables false
namespace Go.Proofs.YteeddednonmglaaDoor
open Go.RowKit

theorem infoKey : (Tryd.prog.info? 26).map (fun i => (i.zero, i.size, i.bytes)) = some (some (.agg #[.string ⟨#[]⟩, .int .i64 0, .int .i64 0, .bool false]), 4, 40) := by kernel_rfl
theorem infoBool : (Tryd.prog.info? 4).map (fun i => (i.zero, i.size, i.bytes)) = some (some (.bool false), 1, 1) := by kernel_rfl
def keysL (l : List Ky) : List Value := l.flatMap kyL
theorem keysL_len (l : List Ky) : (keysL l).length = l.length * 4 := by
  unfold keysL
  induction l with
  | nil => rfl
  | cons c r ih =>
    rw [List.flatMap_cons, List.length_append, ih, List.length_cons]
    show 4 + _ = _
    omega
theorem keysL_get : ∀ (l : List Ky) (k : Nat) (c : Ky) (j : Nat) (v : Value), l[k]? = some c → (kyL c)[j]? = some v → (keysL l)[k * 4 + j]? = some v
  | [], k, c, j, v, h, _ => by simp at h
  | d :: r, 0, c, j, v, h, hj => by
    obtain rfl : d = c := by simpa using h
    have : j < 4 := (List.getElem?_eq_some_iff.1 hj).1
    unfold keysL
    rw [List.flatMap_cons, Nat.zero_mul, Nat.zero_add, List.getElem?_append_left this]
    exact hj
  | d :: r, k + 1, c, j, v, h, hj => by
    have ih := keysL_get r k c j v (by simpa using h) hj
    unfold keysL at ih ⊢
    rw [List.flatMap_cons, List.getElem?_append_right (by show 4 ≤ _; omega)]
    show (List.flatMap kyL r)[(k + 1) * 4 + j - 4]? = _
    rw [show (k + 1) * 4 + j - 4 = k * 4 + j by omega]
    exact ih
theorem owns_keys {w : World} {b : Nat} {v : Value} {l : List Ky} {e : TypeId} (h : w.ownsRow b e 4 v l.length (keysL l)) : ∃ a cap, v = .slice a l.length cap ∧ IsKeys w a l := by
  obtain ⟨a, cap, rfl⟩ := owns_form h
  refine ⟨a, cap, rfl, ?_⟩
  by_cases h0 : l = []
  · exact .inl h0
  · obtain ⟨g, c2, e2, _, _⟩ := owns_some h (List.length_pos_iff.2 h0)
    simp only [Value.slice.injEq] at e2
    obtain ⟨rfl, _, rfl⟩ := e2
    refine .inr ⟨g, 0, rfl, (h.lt g rfl).2, fun k c hk j x hj => ?_⟩
    rw [Nat.zero_add]
    exact owns_cell h (keysL_get l k c j x hk hj)
theorem owns_grown {A B : World} {row : Option Nat} {b : Nat} {e : TypeId} {size n : Nat} {v : Value} {xs : List Value} (ho : A.ownsRow b e size v n xs) (hg : A.grownBy B row) (hne : ∀ k, v.ownBlock = some k → row ≠ some k) : B.ownsRow b e size v n xs :=
  owns_at ho fun k hk => hg.block k (ho.lt k hk).2 (fun z => hne k hk z.symm)
theorem owns_other {A : World} {b c : Nat} {j : Nat} {u : Value} {e : TypeId} {size n : Nat} {v : Value} {xs : List Value} (ho : A.ownsRow b e size v n xs) (hc : c < b) : (A.setCell ⟨c, j, none⟩ u).ownsRow b e size v n xs :=
  owns_at ho fun k hk => heap_setCell_other _ _ _ _ (show k ≠ c from by have := (ho.lt k hk).1; omega)
/-- Keys, sorted, sorted anew. -/
theorem again_sorted {c : Ky → Ky → Int} {l : List Ky} {p : List Nat} (h : Sorted c l p) : Sorted c (p.map fun i => l.getD i noKy) (List.range l.length) := by
  have hpl : p.length = l.length := h.length
  refine ⟨by rw [List.length_map, hpl], ?_⟩
  rw [List.pairwise_iff_getElem]
  intro i j hi hj hij
  rw [List.getElem_range, List.getElem_range]
  rw [List.length_range] at hi hj
  have hA := (List.pairwise_iff_getElem.1 h.2) i j (by omega) (by omega) hij
  unfold aheadL at hA ⊢
  have g : ∀ k (hk : k < p.length), (p.map fun i => l.getD i noKy).getD k noKy = l.getD (p[k]'hk) noKy := fun k hk => by
    rw [List.getD_eq_getElem?_getD, List.getElem?_map, List.getElem?_eq_getElem hk]
    rfl
  rw [g i (by omega), g j (by omega)]
  simp only [Bool.or_eq_true, decide_eq_true_eq, Bool.and_eq_true] at hA ⊢
  rcases hA with q | ⟨q, _⟩
  · exact .inl q
  · exact .inr ⟨q, hij⟩
def bools (S : List Bool) : List Value := S.map Value.bool
/-- What the way through the places holds. -/
def PlcRel (l : List Ky) (p : List Nat) (w4 w5 : World) (n cap : Nat) (v9 v10 : Value) (wr : World) : Prop :=
  ∃ (i : Nat) (S : List Bool), v10 = .int .i64 (i : Int) ∧ i ≤ n ∧ S.length = n ∧ Hid (∀ j, j < n → S[j]? = some (decide (j ∈ p.take i))) ∧
    Hid (wr.ownsRow w4.heap.size 4 1 (.slice (some ⟨w4.heap.size, 0, none⟩) n n) n (bools S)) ∧ Hid (wr.ownsRow w5.heap.size 26 4 v9 ((p.take i).map fun i => l.getD i noKy).length (keysL ((p.take i).map fun i => l.getD i noKy))) ∧ Hid (Below w4.heap.size w4 wr) ∧ Hid (w5.heap.size ≤ wr.heap.size)
def QRel (n : Nat) (w0 : World) (v : Value) (wr : World) : Prop := ∃ k : Nat, k ≤ n ∧ v = .int .i64 (k : Int) ∧ Hid (w0 = wr)
theorem ints_range {n k : Nat} (h : k < n) : (ints ((List.range n).map fun i : Nat => (i : Int)))[k]? = some (.int .i64 (k : Int)) := ints_at (by rw [List.getElem?_range h])

set_option maxRecDepth 100000 in
set_option maxHeartbeats 8000000 in
theorem places_any (o : Int) (rev dirs : Bool) (l : List Ky) (a : Option Addr) (cap : Nat) (w : World) (hp : PT w) (H : IsKeys w a l) (hl : l.length ≤ 9223372036854775807) (hz : ∀ c ∈ l, c.name.size ≤ 9223372036854775807) :
    Calls Tryd.prog 7 #[.int .i64 o, .agg #[.bool rev, .bool dirs], .slice a l.length cap] w fun e w' => e = .returned (.bool true) ∧ Below w.heap.size w w' := by
  obtain ⟨i0, hi0, hz0, hz1, hz2⟩ := info_parts infoKey
  obtain ⟨j0, hj0, hjz0, hjz1, hjz2⟩ := info_parts infoBool
  have HK := Lib.hid H
  have HT := Lib.hid hp
  have HAw := Lib.hid (fun W (hb : Below w.heap.size w W) => oawake_any W (hp.keep hb))
  have HFw := Lib.hid (fun W (hb : Below w.heap.size w W) => kfew_any l a cap 40 W (H.keep hb) hl hz)
  clear H hp hz
  go_enter Tryd.func7, Tryd.ntmps7
  go_upto_region 1 with fail
  have HX0 := Lib.hid (heap_alloc_new w (.cells #[.bool rev, .bool dirs] 34))
  have HB0 := Lib.hid (show Below w.heap.size w (w.alloc (.cells #[.bool rev, .bool dirs] 34)) from (Below.refl _ _).alloc (Nat.le_refl _) _)
  generalize w.alloc (.cells #[.bool rev, .bool dirs] 34) = w0 at HX0 HB0 ⊢
  have HCl := Lib.hid (show ∀ W, Below w0.heap.size w0 W → W.cell? ⟨w.heap.size, 0, none⟩ = some (.bool rev) ∧ W.cell? ⟨w.heap.size, 1, none⟩ = some (.bool dirs) from fun W hW => by
    have q := (hW.block _ (heap_lt HX0.out)).trans HX0.out
    refine ⟨?_, ?_⟩ <;> (rw [cell_of_row _ _ _ _ _ _ q]; rfl))
  clear HX0
  go_wp2_with fail
  refine (HAw.out _ HB0.out).mono ?_
  rintro e w2 ⟨rfl, hb2⟩
  have HB2 := Lib.hid hb2
  clear hb2
  go_wp2_with fail
  refine (HFw.out _ (below_two HB0.out HB2.out)).mono ?_
  rintro e w3 ⟨b, rfl, hb, rfl⟩
  have HBb := Lib.hid hb
  clear hb
  cases b with
  | false =>
    go_wp2_with fail
    refine (HAw.out _ (below_two HB0.out HB2.out)).mono ?_
    rintro e w4 ⟨rfl, hb4⟩
    have HB4 := Lib.hid (below_two (below_two HB0.out HB2.out) hb4)
    clear hb4
    go_wp2_with fail
    go_ret
    exact ⟨rfl, HB4.out⟩
  | true =>
    obtain ⟨f1, f2⟩ := HBb.out.1 rfl
    have HBq := Lib.hid (below_two HB0.out HB2.out)
    have hl4 : l.length ≤ 40 := by omega
    have HNm := Lib.hid (few_names f1 (by omega))
    have HS := Lib.hid (fun W (hb : Below w.heap.size w W) => osort_any o rev dirs l a cap W (HT.out.keep hb) (HK.out.keep hb) (by omega) HNm.out)
    have HSg := Lib.hid (fun (l : List Ky) a cap W (hb : Below w.heap.size w W) (H : IsKeys W a l) (hl : l.length ≤ 1000) (hz : ∀ c ∈ l, c.name.size ≤ 60000) => osort_any o rev dirs l a cap W (HT.out.keep hb) H hl hz)
    clear f1 f2 HBb HFw
    obtain ⟨c0, c1⟩ := HCl.out _ HB2.out
    go_upto_region 4 with (go_at_call 10; refine (HS.out _ HBq.out).mono ?_; rintro e w4 ⟨v4, p, rfl, hp4, ho4, hb4⟩; obtain ⟨ao4, ca4, rfl⟩ := owns_form ho4; have HO4 := Lib.hid ho4; have HP4 := Lib.hid hp4; have HB4 := Lib.hid hb4; clear ho4 hp4 hb4)
    clear c0 c1
    have hpl : p.length = l.length := HP4.out.length
    have HPlt := Lib.hid (show ∀ j ∈ p, j < l.length from fun j hj => HP4.out.lt hj)
    have HPnd := Lib.hid (show p.Nodup from HP4.out.1.nodup_iff.2 List.nodup_range)
    go_upto_region 5 with (at_make; go_loud (refine wpList_make_full _ rfl (.tmp 29) (.tmp 29) 38 rfl w4.heap.size 4 j0 (.bool false) 1 Tryd.underlying38 hj0 hjz0 hjz1 .i64 .i64 _ _ l.length rfl rfl rfl rfl (by rw [hjz2]; omega) (by unfold maxLen; omega) (Nat.le_refl _) ?_; intro w5 hown hgrow))
    have hcells : (madeCells (Value.bool false).cells (l.length * 1)).toList = bools (List.replicate l.length false) := by
      have : (Value.bool false).cells = #[.bool false] := rfl
      rw [this, toList_madeCells_one, Nat.mul_one]
      unfold bools
      rw [List.map_replicate]
    rw [hcells] at hown
    have HO5 := Lib.hid hown
    have HB5 := Lib.hid ((Below.refl w4.heap.size w4).grown hgrow (Nat.le_refl _) (fun j hj => by cases hj))
    have HL5 := Lib.hid (show w4.heap.size < w5.heap.size from (hown.lt _ rfl).2)
    clear hown hgrow hcells
    go_wp2_with fail
    go_loopw [9, 10] (PlcRel l p w4 w5 l.length cap) (fun _ v _ => l.length - (intOf v).toNat)
    case atStart => exact ⟨0, List.replicate l.length false, rfl, Nat.zero_le _, List.length_replicate, Lib.hid (fun j hj => by rw [List.getElem?_replicate, if_pos hj]; rfl), HO5, Lib.hid (World.ownsRow_nil _ _ _ _), HB5, Lib.hid (Nat.le_refl _)⟩
    case round =>
      obtain ⟨i, S, rfl, hi, hSl, HSv, HOs, HOa, HBr, HLr⟩ := hrel
      have hbz : w5.heap.size ≤ wr.heap.size := HLr.out
      have HBx := Lib.hid (below_two HBq.out (below_two HB4.out HBr.out))
      by_cases hlt : i < l.length
      · have e1 : decide ((i : Int) < (l.length : Int)) = true := decide_eq_true (by omega)
        obtain ⟨j, hj⟩ : ∃ j, p[i]? = some j := ⟨_, List.getElem?_eq_getElem (by omega)⟩
        have hjl : j < l.length := HPlt.out j (List.mem_of_getElem? hj)
        obtain ⟨x, hx⟩ : ∃ x, l[j]? = some x := ⟨_, List.getElem?_eq_getElem hjl⟩
        have hjn : j ∉ p.take i := fun hm => by
          obtain ⟨r, hr⟩ := List.mem_iff_getElem?.1 hm
          have hri : r < i := by have := (List.getElem?_eq_some_iff.1 hr).1; rw [List.length_take] at this; omega
          rw [List.getElem?_take, if_pos hri] at hr
          obtain ⟨b1, b2⟩ := List.getElem?_eq_some_iff.1 hr
          obtain ⟨b3, b4⟩ := List.getElem?_eq_some_iff.1 hj
          exact (List.pairwise_iff_getElem.1 HPnd.out) r i b1 b3 hri (b2.trans b4.symm)
        have HO4r := Lib.hid (owns_to HO4.out HBr.out)
        obtain ⟨g1, q1, ex, _, _⟩ := owns_some HO4r.out (by omega)
        simp only [Value.slice.injEq] at ex
        obtain ⟨rfl, _, rfl⟩ := ex
        have a0 : wr.cell? ⟨g1, i, none⟩ = some (.int .i64 (j : Int)) := owns_cell HO4r.out (ints_at hj)
        have s0 : wr.cell? ⟨w4.heap.size, j, none⟩ = some (.bool false) := owns_cell HOs.out (by unfold bools; rw [List.getElem?_map, HSv.out j hjl, decide_eq_false hjn]; rfl)
        have s1 : wr.frozen? ⟨w4.heap.size, j, none⟩ = false := owns_frozen HOs.out j
        have d1 : decide ((j : Int) < 0) = false := decide_eq_false (by omega)
        have d2 : decide ((l.length : Int) ≤ (j : Int)) = false := decide_eq_false (by omega)
        have HTk := Lib.hid (show p.take (i + 1) = p.take i ++ [j] from by rw [List.take_add_one, hj]; rfl)
        have HXj := Lib.hid hx
        clear hjn
        go_upto_region 12 with fail
        have hbl4 : w4.heap.size < w5.heap.size := HL5.out
        have HOs2 := Lib.hid (show (wr.setCell ⟨w4.heap.size, j, none⟩ (.bool true)).ownsRow w4.heap.size 4 1 (.slice (some ⟨w4.heap.size, 0, none⟩) l.length l.length) l.length (bools (S.set j true)) from by
          have := owns_setCell HOs.out (j := j) (by unfold bools; rw [List.length_map, hSl]; exact hjl) (.bool true)
          unfold bools at this ⊢
          rw [List.map_set]
          exact this)
        have HOa2 := Lib.hid (owns_other (j := j) (u := .bool true) HOa.out hbl4)
        have HB2r := Lib.hid (HBr.out.setCell (p := ⟨w4.heap.size, j, none⟩) (Nat.le_refl _) (.bool true))
        have HL2r := Lib.hid (show w5.heap.size ≤ (wr.setCell ⟨w4.heap.size, j, none⟩ (.bool true)).heap.size from by simp [World.setCell]; exact hbz)
        clear a0 s0 s1 HOs HOa HBr HLr
        generalize wr.setCell ⟨w4.heap.size, j, none⟩ (.bool true) = w6 at HOs2 HOa2 HB2r HL2r ⊢
        have HBx2 := Lib.hid (below_two HBq.out (below_two HB4.out HB2r.out))
        have HO4s := Lib.hid (owns_to HO4.out HB2r.out)
        have a0 : w6.cell? ⟨g1, i, none⟩ = some (.int .i64 (j : Int)) := owns_cell HO4s.out (ints_at hj)
        obtain ⟨g, of, rfl, hg, hr1⟩ := HK.out.at_ HXj.out
        have x0 : w6.cell? ⟨g, of + j * 4, none⟩ = some (.string x.name) := (HBx2.out.cell (p := ⟨g, _, none⟩) hg).trans (hr1 0 _ rfl)
        have x1 : w6.cell? ⟨g, of + j * 4 + 1, none⟩ = some (.int .i64 x.size) := (HBx2.out.cell (p := ⟨g, _, none⟩) hg).trans (hr1 1 _ rfl)
        have x2 : w6.cell? ⟨g, of + j * 4 + 2, none⟩ = some (.int .i64 x.time) := (HBx2.out.cell (p := ⟨g, _, none⟩) hg).trans (hr1 2 _ rfl)
        have x3 : w6.cell? ⟨g, of + j * 4 + 3, none⟩ = some (.bool x.dir) := (HBx2.out.cell (p := ⟨g, _, none⟩) hg).trans (hr1 3 _ rfl)
        have hal : ((p.take i).map fun i => l.getD i noKy).length = i := by rw [List.length_map, List.length_take]; omega
        have HM := Lib.hid (show ((p.take i).map fun i => l.getD i noKy).length + 1 ≤ maxLen from by rw [hal]; unfold maxLen; omega)
        have hbz2 : w5.heap.size ≤ w6.heap.size := HL2r.out
        obtain ⟨AG, hAG⟩ : ∃ A, ((p.take i).map fun i => l.getD i noKy) = A := ⟨_, rfl⟩
        have HAG := Lib.hid hAG
        rw [hAG] at hal HM HOa2
        clear hr1 hj hx hAG
        go_wp2_with (at_builtin; go_loud (refine wpList_append_own _ rfl (.tmp 66) (.tmp 74) 22 rfl w5.heap.size 26 i0 (.agg #[.string ⟨#[]⟩, .int .i64 0, .int .i64 0, .bool false]) 4 40 Tryd.underlying22 hi0 hz0 hz1 hz2 rfl (by decide) _ _ _ rfl (HOa2.out.alloc _) ⟨w6.heap.size, 0, none⟩ 1 1 (kyL x) rfl rfl (World.news_of_block (heap_alloc_new _ _)) (by intro u hu; unfold kyL at hu; simp at hu; rcases hu with rfl | rfl | rfl | rfl <;> rfl) HM.out (by omega) (by simp; omega) ?_; intro v1 w1 hown1 hgrow hnil))
        have hAx : (p.take (i + 1)).map (fun i => l.getD i noKy) = AG ++ [x] := by
          rw [HTk.out, List.map_append, HAG.out]
          show AG ++ [l.getD j noKy] = _
          rw [getD_at HXj.out]
        have HO1 := Lib.hid (show w1.ownsRow w5.heap.size 26 4 v1 ((p.take (i + 1)).map fun i => l.getD i noKy).length (keysL ((p.take (i + 1)).map fun i => l.getD i noKy)) from by
          rw [hAx, List.length_append]
          unfold keysL at hown1 ⊢
          rw [List.flatMap_append, List.flatMap_singleton]
          exact hown1)
        have HOs1 := Lib.hid (owns_grown (HOs2.out.alloc _) hgrow (fun k hk hz => by
          have h1 : k = w4.heap.size := by simpa [Value.ownBlock] using hk.symm
          have h2 := (HOa2.out.lt k hz).1
          omega))
        have HB1 := Lib.hid ((HB2r.out.alloc (Nat.le_trans (Nat.le_of_lt hbl4) hbz2) _).grown hgrow (by simp; omega) (fun k hk => by have := (HOa2.out.lt k hk).1; omega))
        have HL1 := Lib.hid (show w5.heap.size ≤ w1.heap.size from Nat.le_trans hbz2 (Nat.le_trans (by simp) hgrow.size))
        have HSn := Lib.hid (show ∀ j', j' < l.length → (S.set j true)[j']? = some (decide (j' ∈ p.take (i + 1))) from fun j' hj' => by
          rw [HTk.out]
          by_cases q : j' = j
          · subst q
            rw [List.getElem?_set_self (by omega)]
            simp
          · rw [List.getElem?_set_ne (fun z => q z.symm), HSv.out j' hj']
            simp [q])
        clear hown1 hgrow hnil hAx x0 x1 x2 x3 a0
        go_wp2
        go_roundw
        case rel => exact ⟨i + 1, S.set j true, by simp, by omega, by rw [List.length_set]; exact hSl, HSn, HOs1, HO1, HB1, HL1⟩
        case measure => simp [intOf]; omega
      · have e1 : decide ((i : Int) < (l.length : Int)) = false := decide_eq_false (by omega)
        have hta : p.take i = p := List.take_of_length_le (by omega)
        rw [hta] at HOa
        have hAl : (p.map fun i => l.getD i noKy).length = l.length := by rw [List.length_map]; exact hpl
        have HSr := Lib.hid (again_sorted HP4.out)
        have HAn := Lib.hid (show ∀ c ∈ (p.map fun i => l.getD i noKy), c.name.size ≤ 60000 from fun c hc => by
          obtain ⟨k, hk, rfl⟩ := List.mem_map.1 hc
          have hkl := HPlt.out k hk
          have : l.getD k noKy = l[k]'hkl := by rw [List.getD_eq_getElem?_getD, List.getElem?_eq_getElem hkl]; rfl
          rw [this]
          exact HNm.out _ (List.getElem_mem hkl))
        obtain ⟨aq, cq, hv9, hKq⟩ := owns_keys HOa.out
        subst hv9
        generalize (p.map fun i => l.getD i noKy) = AG at hAl HSr HAn hKq HOa
        have HSq := Lib.hid (HSg.out AG aq cq wr HBx.out hKq (by omega) HAn.out)
        rw [hAl] at HSq
        obtain ⟨c0, c1⟩ := HCl.out _ (below_two HB2.out (below_two HB4.out HBr.out))
        clear hKq HOa HSg HS
        go_upto_region 14 with (go_at_call 10; refine HSq.out.mono ?_; rintro e w6 ⟨v6, q, rfl, hp6, ho6, hb6⟩; obtain ⟨ao6, ca6, rfl⟩ := owns_form ho6; have HO6 := Lib.hid ho6; have HP6 := Lib.hid hp6; have HB6 := Lib.hid hb6; clear ho6 hp6 hb6)
        have hq := Sorted.one (soC_tot _ _ _) HP6.out HSr.out
        rw [hq] at HO6
        clear hq HP6
        have HBf := Lib.hid (below_two HBx.out HB6.out)
        go_wp2_with fail
        go_loopw [12] (QRel l.length w6) (fun v _ => l.length - (intOf v).toNat)
        case atStart => exact ⟨0, Nat.zero_le _, rfl, Lib.hid rfl⟩
        case round =>
          obtain ⟨k, hk, rfl, HW⟩ := hrel
          obtain rfl := HW.out
          by_cases hlt2 : k < l.length
          · have e2 : decide ((k : Int) < (l.length : Int)) = true := decide_eq_true (by omega)
            obtain ⟨g2, q2, ey, _, _⟩ := owns_some HO6.out (by omega)
            simp only [Value.slice.injEq] at ey
            obtain ⟨rfl, _, rfl⟩ := ey
            have b1 : w6.cell? ⟨g2, k, none⟩ = some (.int .i64 (k : Int)) := owns_cell HO6.out (ints_range hlt2)
            go_wp2_with fail
            go_roundw
            case rel => exact ⟨k + 1, by omega, by simp, Lib.hid rfl⟩
            case measure => simp [intOf]; omega
          · have e2 : decide ((k : Int) < (l.length : Int)) = false := decide_eq_false (by omega)
            go_wp2_with fail
            go_ret
            exact ⟨rfl, HBf.out⟩
end Go.Proofs.YteeddednonmglaaDoor
