/-
  That the law FactsTable returns true. Conditions: the tables lie; what came in lies in memory.
-/
import Derived.Test.YtigkdehaepenhaaDoorJAwakeD
import Derived.Test.YtigkdehaepenhaaDoorJTable
import Derived.Test.YtigkdehaepenhaaDoorJRefTab
import Derived.Test.YtigkdehaepenhaaDoorJSame
import Derived.Test.YtigkdehaepenhaaDoorJArgR
set_option linter.unusedVariables false
set_option linter.unusedSimpArgs false
namespace Go.Proofs.YtigkdehaepenhaaDoor.J
open Go.Proofs.YtigkdehaepenhaaDoor.B
open Go.RowKit

theorem own_texts {w : World} {b : Nat} {v : Value} {x : List ByteArray} (h : w.ownsRow b 9 1 v x.length (strs x)) (h0 : 0 < x.length) : ∃ g cap, v = .slice (some ⟨g, 0, none⟩) x.length cap ∧ g < w.heap.size ∧ ∀ (k : Nat) (S : ByteArray), x[k]? = some S → w.cell? ⟨g, k, none⟩ = some (.string S) := by
  obtain ⟨g, cap, rfl, _, _⟩ := V.owns_some h h0
  refine ⟨g, cap, rfl, (h.lt g rfl).2, fun k S hS => V.owns_cell h ?_⟩
  unfold strs
  rw [List.getElem?_map, hS]
  rfl
def TabRel (R : List Rw) (w : World) (v : Value) (wr : World) : Prop := ∃ k : Nat, v = .int .i64 (k : Int) ∧ k ≤ R.length ∧ Hid (∀ (i : Nat) (r : Rw), i < k → R[i]? = some r → r.at_.size ≤ 300) ∧ Hid (Below w.heap.size w wr)
set_option maxRecDepth 100000 in
set_option maxHeartbeats 8000000 in
theorem tabLaw_any (R : List Rw) (a : Option Addr) (cap : Nat) (w : World) (H : RowL 6 rwC w a R) (ht : FTab w) (hl : R.length ≤ 9223372036854775807) (hw : ∀ r ∈ R, WideR r) :
    Calls Tryd.prog 3 #[.slice a R.length cap] w fun e w' => e = .returned (.bool true) ∧ Below w.heap.size w w' := by
  have HAw := Lib.hid (fun (X : World) (hb : Below w.heap.size w X) => awoken_any X (ht.keep hb))
  have HR := Lib.hid (fun (X : World) (hb : Below w.heap.size w X) => H.keep hb)
  have HOk := Lib.hid (fun (h : ∀ (i : Nat) (r : Rw), i < R.length → R[i]? = some r → r.at_.size ≤ 300) => show ∀ r ∈ R, OkR r from fun r hr => by
    obtain ⟨i, hi, e⟩ := List.getElem_of_mem hr
    have q := hw r hr
    have := h i r hi (by rw [← e]; exact List.getElem?_eq_getElem hi)
    exact ⟨q.dev, q.all, q.used, q.left, q.pct, by omega⟩)
  have HWd := Lib.hid hw
  have HT := Lib.hid (fun (X : World) (hb : Below w.heap.size w X) => (ht.keep hb).n)
  clear ht H hw
  go_enter Tryd.func3, Tryd.ntmps3
  go_wp2_with fail
  refine (HAw.out _ (Below.refl _ _)).mono ?_
  rintro e w1 ⟨rfl, hb1⟩
  have HB1 := Lib.hid hb1
  clear hb1
  by_cases h20 : 20 < R.length
  · have d0 : decide ((20 : Int) < (R.length : Int)) = true := decide_eq_true (by omega)
    go_wp2_with fail
    refine (HAw.out _ HB1.out).mono ?_
    rintro e w2 ⟨rfl, hb2⟩
    have HB2 := Lib.hid (below_two HB1.out hb2)
    clear hb2
    go_wp2_with fail
    go_ret
    exact ⟨rfl, HB2.out⟩
  · have d0 : decide ((20 : Int) < (R.length : Int)) = false := decide_eq_false (by omega)
    clear HAw
    go_upto_region 3 with fail
    clear d0
    go_wp2_with fail
    go_loopw [3] (TabRel R w) (fun v _ => R.length - (intOf v).toNat)
    case atStart => exact ⟨0, rfl, Nat.zero_le _, Lib.hid (fun i r hi => absurd hi (Nat.not_lt_zero _)), HB1⟩
    case round =>
      clear HB1
      obtain ⟨k, rfl, hk, HS, HB⟩ := hrel
      by_cases hlt : k < R.length
      · have d1 : decide ((k : Int) < (R.length : Int)) = true := decide_eq_true (by omega)
        obtain ⟨r, hr⟩ : ∃ r, R[k]? = some r := ⟨_, List.getElem?_eq_getElem hlt⟩
        obtain ⟨g, o, hra, _, hrg⟩ := (HR.out _ HB.out).at_ hr
        subst hra
        have c5 := hrg 5 _ rfl
        have hsz := (HWd.out r (List.mem_of_getElem? hr)).at_
        clear hrg
        by_cases h3 : 300 < r.at_.size
        · have d2 : decide ((300 : Int) < (r.at_.size : Int)) = true := decide_eq_true (by omega)
          clear hr
          generalize r.at_ = T at c5 d2 hsz
          go_wp2_with fail
          go_ret
          exact ⟨rfl, HB.out⟩
        · have d2 : decide ((300 : Int) < (r.at_.size : Int)) = false := decide_eq_false (by omega)
          have HS2 := Lib.hid (show ∀ (i : Nat) (x : Rw), i < k + 1 → R[i]? = some x → x.at_.size ≤ 300 from fun i x hi hx => by
            by_cases e : i < k
            · exact HS.out i x e hx
            · obtain rfl : i = k := by omega
              rw [hr] at hx
              obtain rfl := Option.some.inj hx
              omega)
          clear hr
          generalize r.at_ = T at c5 d2 hsz
          go_wp2_with fail
          go_roundw
          case rel => exact ⟨k + 1, by go_num, by omega, HS2, HB⟩
          case measure => simp [intOf]; omega
      · have hkn : k = R.length := by omega
        have d1 : decide ((k : Int) < (R.length : Int)) = false := decide_eq_false (by omega)
        have HOk2 := Lib.hid (HOk.out (by rw [← hkn]; exact HS.out))
        have h0 : 0 < (tableJ R).length := by rw [table_len]; omega
        have hle : (tableJ R).length ≤ 1000000 := by rw [table_len]; omega
        go_upto_region 8 with fail
        have HTa := Lib.hid (table_any R a cap wr (HT.out _ HB.out) (HR.out _ HB.out) (by omega) HOk2.out)
        have HTr := Lib.hid (fun (X : World) (hb : Below w.heap.size w X) => refTable_any R a cap X (HR.out _ hb) (by omega) HOk2.out)
        clear HOk HOk2 HS HT HR HWd
        generalize tableJ R = Z at HTa HTr h0 hle
        go_wp2_with (first
          | (go_at_call 6; refine HTa.out.mono ?_; rintro e w2 ⟨v2, rfl, ho2, hb2⟩; obtain ⟨g2, c2, rfl, hg2, hC2⟩ := own_texts ho2 h0; have HG2 := Lib.hid hg2; have HC2 := Lib.hid hC2; have HB2 := Lib.hid hb2; clear ho2 hg2 hC2 hb2)
          | (go_at_call 7; refine (HTr.out _ (HB.out.trans (HB2.out.mono HB.out.size))).mono ?_; rintro e w3 ⟨v3, rfl, ho3, hb3⟩; obtain ⟨g3, c3, rfl, hg3, hC3⟩ := own_texts ho3 h0; have HG3 := Lib.hid hg3; have HC3 := Lib.hid hC3; have HB3 := Lib.hid hb3; clear ho3 hg3 hC3 hb3)
          | (go_at_call 5; refine (same_any Z _ _ _ _ _ (Nat.lt_of_lt_of_le HG2.out HB3.out.size) HG3.out (fun k S h => (HB3.out.cell (p := ⟨_, k, none⟩) HG2.out).trans (HC2.out k S h)) HC3.out hle).mono ?_; rintro e w4 ⟨rfl, hb4⟩; have HB4 := Lib.hid (show Below w.heap.size w w4 from HB.out.trans ((HB2.out.trans ((HB3.out.trans (hb4.mono HB3.out.size)).mono HB2.out.size)).mono HB.out.size)); clear hb4))
        go_ret
        exact ⟨rfl, HB4.out⟩
end Go.Proofs.YtigkdehaepenhaaDoor.J
