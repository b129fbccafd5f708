/-
  That the law OrderTurns returns true. Conditions: what came in lies in memory.
-/
import Derived.Test.YteeddednonmglaaDoorOCompares
set_option linter.unusedVariables false
namespace Go.Proofs.YteeddednonmglaaDoor
open Go.RowKit

/-- Turned about, where all names differ. -/
theorem turn_sorted {o : Int} {l : List Ky} {p : List Nat} (hd : ∀ (i k : Nat) (x y : Ky), k < i → l[i]? = some x → l[k]? = some y → x.name ≠ y.name) (h : Sorted (soC o false false) l p) : Sorted (soC o true false) l p.reverse := by
  refine ⟨(List.reverse_perm p).trans h.1, ?_⟩
  rw [List.pairwise_reverse]
  have hlt : ∀ i ∈ p, i < l.length := fun i hi => h.lt hi
  have hnd : p.Pairwise (fun i k => i ≠ k) := by
    have := List.nodup_range (n := l.length)
    exact (h.1.nodup_iff.2 this)
  refine (List.Pairwise.and_mem.1 (h.2.and hnd)).imp ?_
  rintro i k ⟨hi, hk, hA, hne⟩
  obtain ⟨x, hx⟩ : ∃ x, l[i]? = some x := ⟨_, List.getElem?_eq_getElem (hlt i hi)⟩
  obtain ⟨y, hy⟩ : ∃ y, l[k]? = some y := ⟨_, List.getElem?_eq_getElem (hlt k hk)⟩
  have hnm : x.name ≠ y.name := by
    rcases Nat.lt_or_ge k i with q | q
    · exact hd i k x y q hx hy
    · exact fun z => hd k i y x (by omega) hy hx z.symm
  have hc : cmpK o x y ≠ 0 := fun z => hnm ((cmpK_iff o x y).1 z).1
  have h1 := ahead_same (o := o) (rev := false) (dirs := false) hx hy (fun z => by cases z)
  have h2 := ahead_same (o := o) (rev := true) (dirs := false) hy hx (fun z => by cases z)
  rw [h1] at hA
  rw [h2]
  simp only [Bool.false_eq_true, if_false, Bool.or_eq_true, decide_eq_true_eq, Bool.and_eq_true] at hA
  have e := (cmpK_tot o).anti y x
  have hlt2 : cmpK o x y < 0 := by
    rcases hA with q | ⟨q, _⟩
    · exact q
    · exact absurd q hc
  have : decide ((if true = true then -cmpK o y x else cmpK o y x) < 0) = true := by
    rw [if_pos rfl]
    exact decide_eq_true (by omega)
  rw [this]
  rfl
def DiffTo (l : List Ky) (i : Nat) : Prop := ∀ (j k : Nat) (x y : Ky), j < i → k < j → l[j]? = some x → l[k]? = some y → x.name ≠ y.name
def TurnRel (l : List Ky) (w0 : World) (v : Value) (wr : World) : Prop := ∃ i : Nat, i ≤ l.length ∧ v = .int .i64 (i : Int) ∧ Hid (DiffTo l i) ∧ Hid (Below w0.heap.size w0 wr)
def TurnIn (l : List Ky) (i : Nat) (x : Ky) (w0 : World) (v : Value) (wr : World) : Prop := ∃ k : Nat, k ≤ i ∧ v = .int .i64 (k : Int) ∧ Hid (∀ (j : Nat) (y : Ky), j < k → l[j]? = some y → x.name ≠ y.name) ∧ Hid (Below w0.heap.size w0 wr)

set_option maxRecDepth 100000 in
set_option maxHeartbeats 8000000 in
theorem turns_any (o : Int) (l : List Ky) (a : Option Addr) (cap : Nat) (w : World) (hp : PT w) (H : IsKeys w a l) (hl : l.length ≤ 9223372036854775807) (hz : ∀ c ∈ l, c.name.size ≤ 9223372036854775807) :
    Calls Tryd.prog 3 #[.int .i64 o, .slice a l.length cap] w fun e w' => e = .returned (.bool true) ∧ Below w.heap.size w w' := by
  have HK := Lib.hid H
  have HT := Lib.hid hp
  have HAw := Lib.hid (fun W (hb : Below w.heap.size w W) => oawake_any W (hp.keep hb))
  have HFw := Lib.hid (fun W (hb : Below w.heap.size w W) => kfew_any l a cap 40 W (H.keep hb) hl hz)
  clear H hp hz
  go_enter Tryd.func3, Tryd.ntmps3
  go_wp2_with fail
  refine (HAw.out _ (Below.refl _ _)).mono ?_
  rintro e w2 ⟨rfl, hb2⟩
  have HB2 := Lib.hid hb2
  clear hb2
  go_wp2_with fail
  refine (HFw.out _ HB2.out).mono ?_
  rintro e w3 ⟨b, rfl, hb, rfl⟩
  have HBb := Lib.hid hb
  clear hb
  cases b with
  | false =>
    go_wp2_with fail
    refine (HAw.out _ HB2.out).mono ?_
    rintro e w4 ⟨rfl, hb4⟩
    have HB4 := Lib.hid (below_two HB2.out hb4)
    clear hb4
    go_wp2_with fail
    go_ret
    exact ⟨rfl, HB4.out⟩
  | true =>
    obtain ⟨f1, f2⟩ := HBb.out.1 rfl
    have hl4 : l.length ≤ 40 := by omega
    have HNm := Lib.hid (few_names f1 (by omega))
    have HS1 := Lib.hid (fun W (hb : Below w.heap.size w W) => osort_any o false false l a cap W (HT.out.keep hb) (HK.out.keep hb) (by omega) HNm.out)
    have HS2 := Lib.hid (fun W (hb : Below w.heap.size w W) => osort_any o true false l a cap W (HT.out.keep hb) (HK.out.keep hb) (by omega) HNm.out)
    clear f1 f2 HBb HFw
    go_wp2_with fail
    go_loopw [5] (TurnRel l w3) (fun v _ => l.length - (intOf v).toNat)
    case atStart => exact ⟨0, Nat.zero_le _, rfl, Lib.hid (fun j k x y h => by omega), Lib.hid (Below.refl _ _)⟩
    case round =>
      obtain ⟨i, hi, rfl, HDf, HBr⟩ := hrel
      by_cases hlt : i < l.length
      · have e1 : decide ((i : Int) < (l.length : Int)) = true := decide_eq_true (by omega)
        obtain ⟨x, hx⟩ : ∃ x, l[i]? = some x := ⟨_, List.getElem?_eq_getElem hlt⟩
        have HXi := Lib.hid hx
        obtain ⟨g, of, rfl, hg, hr1⟩ := HK.out.at_ hx
        have HKx := Lib.hid (show ∀ (k : Nat) (y : Ky), l[k]? = some y → ∀ W, Below w.heap.size w W → W.cell? ⟨g, of + k * 4, none⟩ = some (.string y.name) from fun k y hy W hb => by
          obtain ⟨g2, of2, e2, hg2, hr2⟩ := HK.out.at_ hy
          simp only [Option.some.injEq, Addr.mk.injEq] at e2
          obtain ⟨rfl, rfl, _⟩ := e2
          exact (hb.cell (p := ⟨g, _, none⟩) hg).trans (hr2 0 _ rfl))
        clear hr1 hx hg
        go_wp2_with fail
        go_loopw [6] (TurnIn l i x w3) (fun v _ => i - (intOf v).toNat)
        case atStart => exact ⟨0, Nat.zero_le _, rfl, Lib.hid (fun j y h => by omega), HBr⟩
        case round =>
          obtain ⟨k, hk, rfl, HDk, HBk⟩ := hrel
          by_cases hki : k < i
          · have e2 : decide ((k : Int) < (i : Int)) = true := decide_eq_true (by omega)
            obtain ⟨y, hy⟩ : ∃ y, l[k]? = some y := ⟨_, List.getElem?_eq_getElem (by omega)⟩
            have hkl : k < l.length := by omega
            have a0 : ∀ n, (wr.drewN n).cell? ⟨g, of + i * 4, none⟩ = some (.string x.name) := fun n => HKx.out i x HXi.out _ (below_drewN' (below_two HB2.out HBk.out))
            have a1 : ∀ n, (wr.drewN n).cell? ⟨g, of + k * 4, none⟩ = some (.string y.name) := fun n => HKx.out k y hy _ (below_drewN' (below_two HB2.out HBk.out))
            have b0 : wr.cell? ⟨g, of + i * 4, none⟩ = some (.string x.name) := HKx.out i x HXi.out _ (below_two HB2.out HBk.out)
            have b1 : wr.cell? ⟨g, of + k * 4, none⟩ = some (.string y.name) := HKx.out k y hy _ (below_two HB2.out HBk.out)
            have HYk := Lib.hid hy
            clear hy
            by_cases hne : x.name = y.name
            · rw [← hne] at a1 b1
              clear hne
              go_upto_region 9 with fail
              go_quiet (fail)
              have HBn := Lib.hid (show Below w3.heap.size w3 (wr.drewN nq) from below_drewN' HBk.out)
              generalize wr.drewN nq = w6 at HBn ⊢
              clear a0 a1 b0 b1
              go_wp2_with fail
              go_ret
              exact ⟨rfl, below_two HB2.out HBn.out⟩
            · obtain ⟨s1, s2, s3⟩ := str_ne _ _ hne
              have HNe := Lib.hid hne
              clear hne
              go_upto_region 9 with fail
              go_quiet (fail)
              have HBn := Lib.hid (show Below w3.heap.size w3 (wr.drewN nq) from below_drewN' HBk.out)
              generalize wr.drewN nq = w6 at HBn ⊢
              clear a0 a1 b0 b1
              go_wp2_with fail
              go_roundw
              case rel => exact ⟨k + 1, by omega, by simp, Lib.hid (fun j y' hj hy' => by
                rcases Nat.lt_or_ge j k with q | q
                · exact HDk.out j y' q hy'
                · obtain rfl : j = k := by omega
                  rw [HYk.out] at hy'
                  obtain rfl := Option.some.inj hy'
                  exact HNe.out), HBn⟩
              case measure => simp [intOf]; omega
          · have e2 : decide ((k : Int) < (i : Int)) = false := decide_eq_false (by omega)
            have hki2 : k = i := by omega
            have HDn := Lib.hid (show DiffTo l (i + 1) from fun j k' x' y' hj hk' hx' hy' => by
              rcases Nat.lt_or_ge j i with q | q
              · exact HDf.out j k' x' y' q hk' hx' hy'
              · obtain rfl : j = i := by omega
                rw [HXi.out] at hx'
                obtain rfl := Option.some.inj hx'
                exact HDk.out k' y' (by omega) hy')
            go_wp2_with fail
            go_roundw
            case rel => exact ⟨i + 1, by omega, by simp, HDn, HBk⟩
            case measure => simp [intOf]; omega
      · have e1 : decide ((i : Int) < (l.length : Int)) = false := decide_eq_false (by omega)
        have HDa := Lib.hid (show ∀ (j k : Nat) (x y : Ky), k < j → l[j]? = some x → l[k]? = some y → x.name ≠ y.name from fun j k x y hk hx hy => HDf.out j k x y (by have := (List.getElem?_eq_some_iff.1 hx).1; omega) hk hx hy)
        go_wp2_with fail
        refine (HS1.out _ (below_two HB2.out HBr.out)).mono ?_
        rintro e w4 ⟨v4, p, rfl, hp4, ho4, hb4⟩
        obtain ⟨ao4, ca4, rfl⟩ := owns_form ho4
        have HO4 := Lib.hid ho4
        have HP4 := Lib.hid hp4
        have HB4 := Lib.hid (below_two HBr.out hb4)
        clear ho4 hp4 hb4
        go_wp2_with fail
        refine (HS2.out _ (below_two HB2.out HB4.out)).mono ?_
        rintro e w5 ⟨v5, p5, rfl, hp5, ho5, hb5⟩
        obtain rfl := Sorted.one (soC_tot _ _ _) (turn_sorted HDa.out HP4.out) hp5
        obtain ⟨ao5, ca5, rfl⟩ := owns_form ho5
        have HO5 := Lib.hid ho5
        have HO45 := Lib.hid (owns_to HO4.out hb5)
        have HB5 := Lib.hid (below_two HB4.out hb5)
        have hpl : p.length = l.length := HP4.out.length
        clear ho5 hb5 hp5 HO4 HB4
        go_wp2_with fail
        go_loopw [9] (SameRel l.length w5) (fun v _ => l.length - (intOf v).toNat)
        case atStart => exact ⟨0, Nat.zero_le _, rfl, Lib.hid (Below.refl _ _)⟩
        case round =>
          obtain ⟨k, hk, rfl, HBk⟩ := hrel
          by_cases hlt2 : k < l.length
          · have e2 : decide ((k : Int) < (l.length : Int)) = true := decide_eq_true (by omega)
            obtain ⟨j, hj⟩ : ∃ j, p[k]? = some j := ⟨_, List.getElem?_eq_getElem (by omega)⟩
            have hj2 : p.reverse[l.length - 1 - k]? = some j := by
              rw [List.getElem?_reverse (by omega), show p.length - 1 - (l.length - 1 - k) = k by omega]
              exact hj
            have HO6 := Lib.hid (owns_to HO45.out HBk.out)
            have HO7 := Lib.hid (owns_to HO5.out HBk.out)
            obtain ⟨g1, q1, ex, _, _⟩ := owns_some HO6.out (by omega)
            obtain ⟨g2, q2, ey, _, _⟩ := owns_some HO7.out (by omega)
            simp only [Value.slice.injEq] at ex ey
            obtain ⟨rfl, _, rfl⟩ := ex
            obtain ⟨rfl, _, rfl⟩ := ey
            have hin : (l.length : Int) - 1 - (k : Int) = ((l.length - 1 - k : Nat) : Int) := by omega
            obtain ⟨m, hm⟩ : ∃ m, l.length - 1 - k = m := ⟨_, rfl⟩
            rw [hm] at hin hj2
            have hml : m < l.length := by omega
            have a0 : ∀ n, (wr.drewN n).cell? ⟨g1, k, none⟩ = some (.int .i64 (j : Int)) := fun n => owns_cell HO6.out (ints_at hj)
            have a1 : ∀ n, (wr.drewN n).cell? ⟨g2, m, none⟩ = some (.int .i64 (j : Int)) := fun n => owns_cell HO7.out (ints_at hj2)
            have b0 : wr.cell? ⟨g1, k, none⟩ = some (.int .i64 (j : Int)) := owns_cell HO6.out (ints_at hj)
            have b1 : wr.cell? ⟨g2, m, none⟩ = some (.int .i64 (j : Int)) := owns_cell HO7.out (ints_at hj2)
            clear hj hj2 hm
            go_upto_region 17 with fail
            go_quiet (fail)
            have HBn := Lib.hid (show Below w5.heap.size w5 (wr.drewN nq) from below_drewN' HBk.out)
            generalize wr.drewN nq = w6 at HBn ⊢
            clear a0 a1 b0 b1
            go_wp2_with fail
            go_roundw
            case rel => exact ⟨k + 1, by omega, by simp, HBn⟩
            case measure => simp [intOf]; omega
          · have e2 : decide ((k : Int) < (l.length : Int)) = false := decide_eq_false (by omega)
            go_wp2_with fail
            go_ret
            exact ⟨rfl, below_two HB2.out (below_two HB5.out HBk.out)⟩
end Go.Proofs.YteeddednonmglaaDoor
