/-
  What the reference's Rows returns: the rows. Conditions: at most 1000 names of at most 4000 bytes, in memory.
-/
import Derived.Test.YtemnbleacjpfcaaDoorLRefB
import Derived.Test.YtemnbleacjpfcaaDoorLPlaceM
import Derived.Test.YtemnbleacjpfcaaDoorPads
import Derived.Deep.RegionHeld3
set_option linter.unusedVariables false
namespace Go.Proofs.YtemnbleacjpfcaaDoor.L
open Go.Proofs.YtemnbleacjpfcaaDoor.W hiding ret_int below_two
open Go.Proofs.YtemnbleacjpfcaaDoor.N hiding ret_int
open Go.Proofs.YtemnbleacjpfcaaDoor.B
open Go.RowKit

/-- Nothing of wr has changed. -/
def Held (wr W : World) : Prop := Below wr.heap.size wr W
theorem Held.start (wr : World) : Held wr wr.drew := (Below.refl _ _).drew
theorem Held.drew {wr W : World} (h : Held wr W) : Held wr W.drew := Below.drew h
theorem held_wid {wr W : World} {ao : Option Addr} {x : List ByteArray} {cap : Nat} (H : InL wr ao x) (hx : x.length ≤ 1000) (hz : ∀ y ∈ x, y.size ≤ 60000) (h : Held wr W) : Calls Tryd.prog 18 #[.slice ao x.length cap] W fun e w' => e = .returned (.int .i64 (wideL x)) ∧ Held wr w' := by
  refine (widest_any x ao cap W (H.keep h) hx hz).mono ?_
  rintro e w' ⟨rfl, hb⟩
  exact ⟨rfl, below_two h hb⟩
theorem held_of {wr W : World} (s : ByteArray) (hs : s.size ≤ 1000000) (h : Held wr W) : Calls Tryd.prog 19 #[.string s] W fun e w' => e = .returned (.int .i64 (wd s 0)) ∧ Held wr w' := by
  refine (refOf_any s W hs).mono ?_
  rintro e w' ⟨rfl, hb⟩
  exact ⟨rfl, below_two h hb⟩
theorem held_blanks {wr W : World} (n : Nat) (hn : n ≤ 10000) (h : Held wr W) : Calls Tryd.prog 17 #[.int .i64 (n : Int)] W fun e w' => e = .returned (.string (blankL n)) ∧ Held wr w' := by
  refine (refBlanks_any n W hn).mono ?_
  rintro e w' ⟨rfl, rfl⟩
  exact ⟨rfl, h⟩

/-! ### the model, step by step -/
theorem rowT_none {C : List (List ByteArray)} {r : Nat} (h : hasR C r ≠ true) : rowT C r = ByteArray.empty := by
  cases C with
  | nil => rfl
  | cons c C =>
    unfold rowT
    rw [if_neg]
    intro z
    exact h (decide_eq_true z)
theorem drop_cons {α : Type} {l : List α} {k : Nat} {b : α} (h : l[k]? = some b) : l.drop k = b :: l.drop (k + 1) := by
  obtain ⟨hk, rfl⟩ := List.getElem?_eq_some_iff.1 h
  exact List.drop_eq_getElem_cons hk
theorem has_drop {C : List (List ByteArray)} {j r : Nat} : hasR (C.drop j) r = true ↔ ∃ y, C[j]? = some y ∧ r < y.length := by
  rcases Nat.lt_or_ge j C.length with h | h
  · rw [drop_cons (List.getElem?_eq_getElem h)]
    constructor
    · intro q
      exact ⟨_, List.getElem?_eq_getElem h, by simpa [hasR] using q⟩
    · rintro ⟨y, hy, hr⟩
      rw [List.getElem?_eq_getElem h] at hy
      obtain rfl := Option.some.inj hy
      exact decide_eq_true hr
  · rw [List.drop_of_length_le h, List.getElem?_eq_none h]
    simp [hasR]
theorem row_more {C : List (List ByteArray)} {j r : Nat} {x : List ByteArray} (hx : C[j]? = some x) (hr : r < x.length) (hh : hasR (C.drop (j + 1)) r = true) : rowT (C.drop j) r = atL x r ++ (blankL (gapN x (atL x r)) ++ rowT (C.drop (j + 1)) r) := by
  rw [drop_cons hx, rowT, if_pos hr, if_pos hh]
theorem row_last {C : List (List ByteArray)} {j r : Nat} {x : List ByteArray} (hx : C[j]? = some x) (hr : r < x.length) (hh : hasR (C.drop (j + 1)) r ≠ true) : rowT (C.drop j) r = atL x r ++ rowT (C.drop (j + 1)) r := by
  rw [rowT_none hh, drop_cons hx, rowT, if_pos hr, if_neg hh]
  exact ByteArray.ext (Array.toList_inj.1 (by rw [dapp]; exact (List.append_nil _).symm))
def RowRel (C : List (List ByteArray)) (r m : Nat) (w : World) (s v : Value) (wr : World) : Prop :=
  ∃ (j : Nat) (t : ByteArray), v = .int .i64 (j : Int) ∧ s = .string t ∧ j ≤ m ∧ Hid (rowT C r = t ++ rowT (C.drop j) r) ∧ Hid (Below w.heap.size w wr)
def RowsRel (C : List (List ByteArray)) (R : Nat) (w w1 : World) (o v : Value) (wr : World) : Prop :=
  ∃ r : Nat, v = .int .i64 (r : Int) ∧ r ≤ R ∧ Hid (wr.ownsRow w1.heap.size 9 1 o r (strs ((List.range r).map (rowT C)))) ∧ Hid (Below w1.heap.size w1 wr)
set_option maxRecDepth 100000 in
set_option maxHeartbeats 16000000 in
theorem rrows_any (l : List ByteArray) (a : Option Addr) (cap : Nat) (most : Int) (across : Bool) (w : World) (H : InL w a l) (hl : l.length ≤ 1000) (hz : ∀ x ∈ l, x.size ≤ 4000) :
    Calls Tryd.prog 7 #[.slice a l.length cap, .int .i64 most, .bool across] w fun e w' => ∃ v, e = .returned v ∧ w'.ownsRow w.heap.size 9 1 v (lrows l most across).length (strs (lrows l most across)) ∧ Below w.heap.size w w' := by
  have hz6 : ∀ x ∈ l, x.size ≤ 60000 := fun x hx => Nat.le_trans (hz x hx) (by decide)
  obtain ⟨it, hit, ht0, ht1, ht2⟩ := info_parts infoText
  by_cases h0 : l.length = 0
  · have HE := Lib.hid (show lrows l most across = [] from if_pos h0)
    rw [HE.out, h0]
    go_enter Tryd.func7, Tryd.ntmps7
    go_wp2
    go_ret
    exact ⟨_, rfl, World.ownsRow_nil _ _ _ _, Below.refl _ _⟩
  · have HBs := Lib.hid (rbest_any l a cap most across w H hl hz6 (by omega))
    have hd0 : ((l.length : Int) == 0) = false := beq_eq_false_iff_ne.2 (by omega)
    have HLr := Lib.hid (show lrows l most across = rowsOf (bestL l most across) from if_neg h0)
    obtain ⟨bk1, bk2, _⟩ := best_ok l most across l.length
    have hlen : (bestL l most across).length = bestF l most across l.length := colsL_len _ _ _
    have HMem := Lib.hid (fun c hc x hx => hz x (colsL_mem (l := l) (cols := bestF l most across l.length) (across := across) (c := c) hc (x := x) hx))
    have HFew := Lib.hid (fun c hc => Nat.le_trans (colsL_few (l := l) (cols := bestF l most across l.length) (across := across) (c := c) hc) hl)
    have HMem' := Lib.hid (show ∀ c ∈ bestL l most across, ∀ x ∈ c, x.size ≤ 4000 from HMem.out)
    have HFew' := Lib.hid (show ∀ c ∈ bestL l most across, c.length ≤ 1000 from HFew.out)
    clear HMem HFew H hz hz6
    obtain ⟨m, hm⟩ : ∃ m, bestF l most across l.length = m := ⟨_, rfl⟩
    rw [hm] at HBs bk1 bk2 hlen
    clear hm
    generalize lrows l most across = L at *
    generalize bestL l most across = C at *
    generalize l.length = n at *
    go_enter Tryd.func7, Tryd.ntmps7
    go_wp2_with fail
    refine HBs.out.mono ?_
    clear HBs
    rintro e w1 ⟨g, m', rfl, hmm, hC, hb⟩
    subst hmm
    have HC := Lib.hid hC
    have HB := Lib.hid hb
    clear hC hb
    obtain ⟨x0, hx0⟩ : ∃ x0, C[0]? = some x0 := ⟨_, List.getElem?_eq_getElem (by omega)⟩
    have HX0 := Lib.hid hx0
    have HR := Lib.hid (show L = (List.range x0.length).map (rowT C) from by
      rw [HLr.out]
      unfold rowsOf
      cases C with
      | nil => cases hx0
      | cons c C => obtain rfl := Option.some.inj hx0; rfl)
    have hxl0 := HFew'.out x0 (List.mem_of_getElem? hx0)
    clear hx0 HLr
    go_wp2_with fail
    go_loopw [8, 9] (RowsRel C x0.length w w1) (fun _ v _ => x0.length - (intOf v).toNat)
    case atStart => exact ⟨0, rfl, Nat.zero_le _, Lib.hid (World.ownsRow_nil _ _ _ _), Lib.hid (Below.refl _ _)⟩
    case round =>
      obtain ⟨r, rfl, hr, HO, HBr⟩ := hrel
      obtain ⟨a0, cap0, g0, _, _⟩ := (HC.out.keep HBr.out).get HX0.out
      by_cases hi : r < x0.length
      · have e1 : decide ((r : Int) < (x0.length : Int)) = true := decide_eq_true (by omega)
        go_wp2_with fail
        clear g0
        go_loopw [10, 11] (RowRel C r m' wr) (fun _ v _ => m' - (intOf v).toNat)
        case atStart => exact ⟨0, ⟨#[]⟩, rfl, rfl, Nat.zero_le _, Lib.hid (nil_app _).symm, Lib.hid (Below.refl _ _)⟩
        case round =>
          obtain ⟨j, t, rfl, rfl, hj, HT, HBj⟩ := hrel
          have HB2 := Lib.hid (below_two HBr.out HBj.out)
          have HC2 := Lib.hid (HC.out.keep HB2.out)
          have HO2 := Lib.hid (owns_to HO.out HBj.out)
          have HBw := Lib.hid (show w1.heap.size ≤ wr.heap.size from HB2.out.size)
          have hts : t.size ≤ 20000000 := by
            have h1 := rowT_size (k := 4000) C r HMem'.out
            rw [HT.out, app_size] at h1
            omega
          by_cases hjm : j < m'
          · have e2 : decide ((j : Int) < (m' : Int)) = true := decide_eq_true (by omega)
            obtain ⟨x, hx⟩ : ∃ x, C[j]? = some x := ⟨_, List.getElem?_eq_getElem (by omega)⟩
            obtain ⟨ao, capx, c0, _, c2⟩ := HC2.out.get hx
            have HCx := Lib.hid hx
            have hxm := List.mem_of_getElem? hx
            have hxl := HFew'.out x hxm
            have HXz := Lib.hid (HMem'.out x hxm)
            clear hx hxm
            by_cases hrx : r < x.length
            · have e3 : decide ((r : Int) < (x.length : Int)) = true := decide_eq_true (by omega)
              have HIx := Lib.hid (inL_own c2)
              rcases inL_own c2 with q | ⟨b, off, rfl, hcs⟩
              · omega
              have hcell := hcs r hrx
              have hsz := HXz.out _ (atL_mem hrx)
              clear hcs c2
              have hadd := fun (W : World) => run_string_add_sum (P := Tryd.prog) W t (atL x r) (by omega)
              have hxz6 : ∀ y ∈ x, y.size ≤ 60000 := fun y hy => Nat.le_trans (HXz.out y hy) (by decide)
              have HWd := Lib.hid (fun (W : World) (h : Held wr W) => held_wid (cap := capx) HIx.out hxl hxz6 h)
              have hwx : 0 ≤ wideL x ∧ wideL x ≤ 8000 := ⟨wideL_nonneg _, by have := wideL_small HXz.out; omega⟩
              have hgp := gap_two hrx
              have hwS := (wd_bd (atL x r) 0).1
              by_cases hh : hasR (C.drop (j + 1)) r = true
              · obtain ⟨y, hy, hry⟩ := has_drop.1 hh
                obtain ⟨ay, capy, d0, _, _⟩ := HC2.out.get hy
                have hj1 : j + 1 < m' := by have := (List.getElem?_eq_some_iff.1 hy).1; omega
                have e4 : decide ((j : Int) + 1 < (m' : Int)) = true := decide_eq_true (by omega)
                have e5 : decide ((r : Int) < (y.length : Int)) = true := decide_eq_true (by omega)
                have HMo := Lib.hid (show rowT C r = t ++ atL x r ++ blankL (gapN x (atL x r)) ++ rowT (C.drop (j + 1)) r from by rw [HT.out, row_more HCx.out hrx hh, bytes_assoc, bytes_assoc])
                have hgs := blankL_size (gapN x (atL x r))
                have hadd2 := fun (W : World) => run_string_add_sum (P := Tryd.prog) W (t ++ atL x r) (blankL (gapN x (atL x r))) (by rw [app_size]; omega)
                have HCel := Lib.hid (show ∀ W, Held wr W → W.cell? ⟨g, j, none⟩ = some (.slice (some ⟨b, off, none⟩) x.length capx) ∧ W.cell? ⟨b, off + r, none⟩ = some (.string (atL x r)) from fun W hb => ⟨by rw [Below.cell hb (p := ⟨g, j, none⟩) (cell_lt c0)]; exact c0, by rw [Below.cell hb (p := ⟨b, off + r, none⟩) (cell_lt hcell)]; exact hcell⟩)
                obtain ⟨G, hG⟩ : ∃ G, gapN x (atL x r) = G := ⟨_, rfl⟩
                rw [hG] at hgp hadd2 HMo hgs
                clear hG hh hy
                generalize atL x r = S at *
                have hw1 : IntKind.i64.wrap (wideL x + 2) = wideL x + 2 := IntWalk.i64_in _ (by omega)
                have hw2 : IntKind.i64.wrap (wideL x + 2 - wd S 0) = (G : Int) := by rw [IntWalk.i64_in _ (by omega)]; omega
                have HOf := Lib.hid (fun (W : World) (h : Held wr W) => held_of S (by omega) h)
                have HBl := Lib.hid (fun (W : World) (h : Held wr W) => held_blanks G (by omega) h)
                go_upto_region 14 with fail
                clear c0 d0 hcell hadd e1 e2 e3 e4 e5
                go_region_held3 (fun w' => Held wr w' ∧ w'.cell? ⟨g, j, none⟩ = some (.slice (some ⟨b, off, none⟩) x.length capx) ∧ w'.cell? ⟨b, off + r, none⟩ = some (.string S)) (first | exact ⟨hk, HCel.out _ hk⟩ | exact ⟨Held.start _, HCel.out _ (Held.start _)⟩) (first | (go_at_call 18; refine (HWd.out _ (And.left (by assumption))).mono ?_; rintro e w3 ⟨rfl, hk⟩) | (go_at_call 19; refine (HOf.out _ (And.left (by assumption))).mono ?_; rintro e w3 ⟨rfl, hk⟩) | (go_at_call 17; refine (HBl.out _ (And.left (by assumption))).mono ?_; rintro e w3 ⟨rfl, hk⟩))
                all_goals
                  go_wp2_with fail
                  go_roundw
                  case rel => exact ⟨j + 1, t ++ S ++ blankL G, by go_num, rfl, by omega, HMo, Lib.hid (below_two HBj.out hk)⟩
                  case measure => simp [intOf]; omega
              · have HLa := Lib.hid (show rowT C r = t ++ atL x r ++ rowT (C.drop (j + 1)) r from by rw [HT.out, row_last HCx.out hrx hh, bytes_assoc])
                by_cases hj1 : j + 1 < m'
                · obtain ⟨y, hy⟩ : ∃ y, C[j + 1]? = some y := ⟨_, List.getElem?_eq_getElem (by omega)⟩
                  obtain ⟨ay, capy, d0, _, _⟩ := HC2.out.get hy
                  have hry : ¬ r < y.length := fun z => hh (has_drop.2 ⟨y, hy, z⟩)
                  have e4 : decide ((j : Int) + 1 < (m' : Int)) = true := decide_eq_true (by omega)
                  have e5 : decide ((r : Int) < (y.length : Int)) = false := decide_eq_false (by omega)
                  clear hh hy
                  generalize atL x r = S at *
                  go_wp2_with fail
                  go_roundw
                  case rel => exact ⟨j + 1, t ++ S, by go_num, rfl, by omega, HLa, HBj⟩
                  case measure => simp [intOf]; omega
                · have e4 : decide ((j : Int) + 1 < (m' : Int)) = false := decide_eq_false (by omega)
                  clear hh
                  generalize atL x r = S at *
                  go_wp2_with fail
                  go_roundw
                  case rel => exact ⟨j + 1, t ++ S, by go_num, rfl, by omega, HLa, HBj⟩
                  case measure => simp [intOf]; omega
            · have e3 : decide ((r : Int) < (x.length : Int)) = false := decide_eq_false (by omega)
              have HE := Lib.hid (show rowT C r = t from by
                rw [HT.out, rowT_none (fun z => by
                  obtain ⟨y, hy, hry⟩ := has_drop.1 z
                  rw [HCx.out] at hy
                  obtain rfl := Option.some.inj hy
                  omega)]
                exact ByteArray.ext (Array.toList_inj.1 (by rw [dapp]; exact List.append_nil _)))
              go_wp2_with (at_builtin; go_loud (refine wpList_append_own _ rfl (.tmp 84) (.tmp 86) 22 rfl w1.heap.size 9 it (.string ⟨#[]⟩) 1 16 Tryd.underlying22 hit ht0 ht1 ht2 rfl (by decide) _ _ _ rfl (HO2.out.alloc _) ⟨wr.heap.size, 0, none⟩ 1 1 [.string t] rfl rfl (World.news_of_block (heap_alloc_new _ _)) (by intro u hu; simp at hu; subst hu; rfl) (by unfold maxLen; omega) (by omega) (by have := HBw.out; simp; omega) ?_; intro v5 w5 hown hgrow hnil))
              have HO5 := Lib.hid (show w5.ownsRow w1.heap.size 9 1 v5 (r + 1) (strs ((List.range (r + 1)).map (rowT C))) from by rw [List.range_succ, List.map_append, strs_two, List.map_cons, List.map_nil, HE.out]; exact hown)
              have HB5 := Lib.hid (show Below w1.heap.size w1 w5 from ((HB2.out.alloc HB2.out.size (.cells #[.string t] 9)).grown hgrow (by have := HB2.out.size; simp; omega) (fun k hk => (HO2.out.lt k hk).1))) 
              clear hown hgrow hnil
              go_roundw
              case rel => exact ⟨r + 1, by go_num, by omega, HO5, HB5⟩
              case measure => simp [intOf]; omega
          · have e2 : decide ((j : Int) < (m' : Int)) = false := decide_eq_false (by omega)
            have HE := Lib.hid (show rowT C r = t from by
              rw [HT.out, rowT_none (fun z => by
                obtain ⟨y, hy, hry⟩ := has_drop.1 z
                have := (List.getElem?_eq_some_iff.1 hy).1
                omega)]
              exact ByteArray.ext (Array.toList_inj.1 (by rw [dapp]; exact List.append_nil _)))
            go_wp2_with (at_builtin; go_loud (refine wpList_append_own _ rfl (.tmp 84) (.tmp 86) 22 rfl w1.heap.size 9 it (.string ⟨#[]⟩) 1 16 Tryd.underlying22 hit ht0 ht1 ht2 rfl (by decide) _ _ _ rfl (HO2.out.alloc _) ⟨wr.heap.size, 0, none⟩ 1 1 [.string t] rfl rfl (World.news_of_block (heap_alloc_new _ _)) (by intro u hu; simp at hu; subst hu; rfl) (by unfold maxLen; omega) (by omega) (by have := HBw.out; simp; omega) ?_; intro v5 w5 hown hgrow hnil))
            have HO5 := Lib.hid (show w5.ownsRow w1.heap.size 9 1 v5 (r + 1) (strs ((List.range (r + 1)).map (rowT C))) from by rw [List.range_succ, List.map_append, strs_two, List.map_cons, List.map_nil, HE.out]; exact hown)
            have HB5 := Lib.hid (show Below w1.heap.size w1 w5 from ((HB2.out.alloc HB2.out.size (.cells #[.string t] 9)).grown hgrow (by have := HB2.out.size; simp; omega) (fun k hk => (HO2.out.lt k hk).1))) 
            clear hown hgrow hnil
            go_roundw
            case rel => exact ⟨r + 1, by go_num, by omega, HO5, HB5⟩
            case measure => simp [intOf]; omega
      · have e1 : decide ((r : Int) < (x0.length : Int)) = false := decide_eq_false (by omega)
        have hre : r = x0.length := by omega
        subst hre
        go_wp2_with fail
        go_ret
        exact ⟨_, rfl, by rw [HR.out, List.length_map, List.length_range]; exact owns_lower HO.out HB.out.size, below_two HB.out HBr.out⟩
end Go.Proofs.YtemnbleacjpfcaaDoor.L
