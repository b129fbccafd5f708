/-
  What the reference's Commas, Few and Same return. Conditions: at most 1000 names of at most 4000 bytes, in memory.
-/
import Derived.Test.YtemnbleacjpfcaaDoorLRefC
set_option linter.unusedVariables false
namespace Go.Proofs.YtemnbleacjpfcaaDoor.L
open Go.Proofs.YtemnbleacjpfcaaDoor.W hiding ret_int below_two
open Go.Proofs.YtemnbleacjpfcaaDoor.N hiding ret_int
open Go.Proofs.YtemnbleacjpfcaaDoor.B
open Go.RowKit

theorem rcom_first (l : List ByteArray) (most : Int) {i : Nat} (h : i = 0) : comS l most (i + 1) = ((comS l most i).1, comItem l i) := by
  rw [comS, if_pos h]
theorem rcom_more {l : List ByteArray} {most : Int} {i : Nat} (h0 : i ≠ 0) (h : most ≤ 0 ∨ wd (comS l most i).2 0 + 1 + wd (comItem l i) 0 ≤ most) : comS l most (i + 1) = ((comS l most i).1, (comS l most i).2 ++ (⟨#[32]⟩ ++ comItem l i)) := by
  rw [comS, if_neg h0, if_pos h]
theorem rcom_else {l : List ByteArray} {most : Int} {i : Nat} (h0 : i ≠ 0) (h : ¬(most ≤ 0 ∨ wd (comS l most i).2 0 + 1 + wd (comItem l i) 0 ≤ most)) : comS l most (i + 1) = ((comS l most i).1 ++ [(comS l most i).2], comItem l i) := by
  rw [comS, if_neg h0, if_neg h]
def RComRel (l : List ByteArray) (most : Int) (n : Nat) (w : World) (o c v : Value) (wr : World) : Prop :=
  ∃ i : Nat, v = .int .i64 (i : Int) ∧ i ≤ n ∧ c = .string (comS l most i).2 ∧ Hid (wr.ownsRow w.heap.size 9 1 o (comS l most i).1.length (strs (comS l most i).1)) ∧ Hid (Below w.heap.size w wr)
set_option maxRecDepth 100000 in
set_option maxHeartbeats 16000000 in
theorem rcommas_any (l : List ByteArray) (a : Option Addr) (cap : Nat) (most : Int) (w : World) (H : InL w a l) (hl : l.length ≤ 200) (hz : ∀ x ∈ l, x.size ≤ 4000) :
    Calls Tryd.prog 12 #[.slice a l.length cap, .int .i64 most] w fun e w' => ∃ v, e = .returned v ∧ w'.ownsRow w.heap.size 9 1 v (commasL l most).length (strs (commasL l most)) ∧ Below w.heap.size w w' := by
  obtain ⟨it, hit, ht0, ht1, ht2⟩ := info_parts infoText
  have HX := Lib.hid H
  have HZ := Lib.hid hz
  have HSz := Lib.hid (fun i (hi : i ≤ l.length) => com_size (l := l) (most := most) (k := 4000) hz i hi)
  clear H hz
  obtain ⟨n, hn⟩ : ∃ n, l.length = n := ⟨_, rfl⟩
  have HN := Lib.hid hn
  have HE := Lib.hid (show commasL l most = if n = 0 then [] else (comS l most n).1 ++ [(comS l most n).2] from by rw [← hn]; rfl)
  rw [hn] at hl HSz ⊢
  clear hn
  generalize commasL l most = L at *
  go_enter Tryd.func12, Tryd.ntmps12
  go_wp2
  go_loopw [5, 6, 7] (RComRel l most n w) (fun _ _ v _ => n - (intOf v).toNat)
  case atStart => exact ⟨0, rfl, Nat.zero_le _, rfl, Lib.hid (World.ownsRow_nil _ _ _ _), Lib.hid (Below.refl _ _)⟩
  case round =>
    obtain ⟨i, rfl, hi, rfl, HR, HB⟩ := hrel
    obtain ⟨z1, z2, z3⟩ := HSz.out i hi
    by_cases hin : i < n
    · have e1 : decide ((i : Int) < (n : Int)) = true := decide_eq_true (by omega)
      have hil : i < l.length := by rw [HN.out]; exact hin
      rcases HX.out.keep HB.out with q | ⟨b, off, rfl, hcs⟩
      · omega
      have hcell := hcs i hil
      clear hcs
      have hsz := HZ.out _ (atL_mem hil)
      have hisz := item_size (l := l) (i := i) (k := 4000) hil HZ.out
      have HI := Lib.hid (show comItem l i = if i + 1 < n then atL l i ++ ⟨#[44]⟩ else atL l i from by rw [← HN.out]; rfl)
      have HF := Lib.hid (fun h => rcom_first l most (i := i) h)
      have HMo := Lib.hid (fun h0 h => rcom_more (l := l) (most := most) (i := i) h0 h)
      have HEl := Lib.hid (fun h0 h => rcom_else (l := l) (most := most) (i := i) h0 h)
      have hadd := fun (W : World) => run_string_add_sum (P := Tryd.prog) W (atL l i) ⟨#[44]⟩ (by show _ + 1 ≤ _; omega)
      obtain ⟨S, hS⟩ : ∃ S, comS l most i = S := ⟨_, rfl⟩
      rw [hS] at z1 z2 z3 HF HMo HEl HR ⊢
      clear hS
      obtain ⟨R, C⟩ := S
      dsimp only at z1 z2 z3 HF HMo HEl HR ⊢
      have hRl : R.length ≤ 200 := by omega
      have hCz : C.size ≤ 1000000 := by omega
      generalize comItem l i = I at *
      have hcb := wd_bd C 0
      have hib := wd_bd I 0
      have hadd2 := fun (W : World) => run_string_add_sum (P := Tryd.prog) W ⟨#[32]⟩ I (by show 1 + _ ≤ _; omega)
      have hadd3 := fun (W : World) => run_string_add_sum (P := Tryd.prog) W C (⟨#[32]⟩ ++ I) (by rw [app_size]; show _ + (1 + _) ≤ _; omega)
      have HOc := Lib.hid (fun (W : World) => refOf_any C W (by omega))
      have HOi := Lib.hid (fun (W : World) => refOf_any I W (by omega))
      generalize wd C 0 = Z at *
      generalize wd I 0 = O at *
      clear z1 z2 z3
      have hI : (i + 1 < n ∧ I = atL l i ++ ⟨#[44]⟩) ∨ (¬ i + 1 < n ∧ I = atL l i) := by
        have := HI.out
        by_cases hc : i + 1 < n
        · rw [if_pos hc] at this; exact .inl ⟨hc, this⟩
        · rw [if_neg hc] at this; exact .inr ⟨hc, this⟩
      clear HI
      rcases hI with ⟨hc, hI⟩ | ⟨hc, hI⟩
      case' inl =>
        have d1 : decide ((i : Int) + 1 < (n : Int)) = true := decide_eq_true (by omega)
        have HI := Lib.hid hI.symm
        clear hI
        go_upto_region 9 with fail
      case' inr =>
        have d1 : decide ((i : Int) + 1 < (n : Int)) = false := decide_eq_false (by omega)
        have HI := Lib.hid hI.symm
        clear hI
        go_upto_region 9 with fail
      all_goals
        rw [HI.out]
        clear hcell hadd d1
        by_cases h0 : i = 0
        · have d2 : ((i : Int) == 0) = true := beq_iff_eq.2 (by omega)
          have HQ := Lib.hid (HF.out h0)
          go_wp2_with fail
          go_roundw
          case rel => exact ⟨i + 1, by go_num, by omega, by rw [HQ.out], by rw [HQ.out]; exact HR, HB⟩
          case measure => simp [intOf]; omega
        · have d2 : ((i : Int) == 0) = false := beq_eq_false_iff_ne.2 (by omega)
          by_cases hm0 : most ≤ 0
          · have m1 : decide (most ≤ 0) = true := decide_eq_true hm0
            have HQ := Lib.hid (HMo.out h0 (.inl hm0))
            go_wp2_with fail
            go_roundw
            case rel => exact ⟨i + 1, by go_num, by omega, by rw [HQ.out], by rw [HQ.out]; exact HR, HB⟩
            case measure => simp [intOf]; omega
          · have m1 : decide (most ≤ 0) = false := decide_eq_false hm0
            go_wp2_with fail
            refine (HOc.out wr).mono ?_
            rintro e w2 ⟨rfl, hb2⟩
            have HB2 := Lib.hid (below_two HB.out hb2)
            have HR2 := Lib.hid (owns_to HR.out hb2)
            clear hb2
            go_wp2_with fail
            refine (HOi.out w2).mono ?_
            rintro e w3 ⟨rfl, hb3⟩
            have HB3 := Lib.hid (below_two HB2.out hb3)
            have HR3 := Lib.hid (owns_to HR2.out hb3)
            clear hb3
            by_cases hf : Z + 1 + O ≤ most
            · have m2 : decide (Z + 1 + O ≤ most) = true := decide_eq_true hf
              have HQ := Lib.hid (HMo.out h0 (.inr hf))
              go_wp2_with fail
              go_roundw
              case rel => exact ⟨i + 1, by go_num, by omega, by rw [HQ.out], by rw [HQ.out]; exact HR3, HB3⟩
              case measure => simp [intOf]; omega
            · have m2 : decide (Z + 1 + O ≤ most) = false := decide_eq_false hf
              have HQ := Lib.hid (HEl.out h0 (fun q => q.elim (fun z => by omega) hf))
              go_wp2_with (at_builtin; go_loud (refine wpList_append_own _ rfl (.tmp 45) (.tmp 47) 22 rfl w.heap.size 9 it (.string ⟨#[]⟩) 1 16 Tryd.underlying22 hit ht0 ht1 ht2 rfl (by decide) _ _ _ rfl (HR3.out.alloc _) ⟨w3.heap.size, 0, none⟩ 1 1 [.string C] rfl rfl (World.news_of_block (heap_alloc_new _ _)) (by intro u hu; simp at hu; subst hu; rfl) (by unfold maxLen; omega) (by omega) (by have := HB3.out.size; simp; omega) ?_; intro v5 w5 hown hgrow hnil))
              have HR5 := Lib.hid (show w5.ownsRow w.heap.size 9 1 v5 (R ++ [C]).length (strs (R ++ [C])) from by rw [List.length_append, strs_two]; exact hown)
              have HB5 := Lib.hid ((HB3.out.alloc HB3.out.size (.cells #[.string C] 9)).grown hgrow (by have := HB3.out.size; simp; omega) (fun k hk => (HR3.out.lt k hk).1))
              clear hown hgrow hnil
              go_roundw
              case rel => exact ⟨i + 1, by go_num, by omega, by rw [HQ.out], by rw [HQ.out]; exact HR5, HB5⟩
              case measure => simp [intOf]; omega
    · have e1 : decide ((i : Int) < (n : Int)) = false := decide_eq_false (by omega)
      have hie : i = n := by omega
      subst hie
      by_cases hn0 : i = 0
      · have hc0 : decide ((0 : Int) < (i : Int)) = false := decide_eq_false (by omega)
        rw [if_pos hn0] at HE
        subst hn0
        go_wp2_with fail
        go_ret
        exact ⟨_, rfl, by rw [HE.out]; exact HR.out, HB.out⟩
      · have hc0 : decide ((0 : Int) < (i : Int)) = true := decide_eq_true (by omega)
        rw [if_neg hn0] at HE
        generalize comS l most i = S at *
        go_wp2_with (at_builtin; go_loud (refine wpList_append_own _ rfl (.tmp 53) (.tmp 55) 22 rfl w.heap.size 9 it (.string ⟨#[]⟩) 1 16 Tryd.underlying22 hit ht0 ht1 ht2 rfl (by decide) _ _ _ rfl (HR.out.alloc _) ⟨wr.heap.size, 0, none⟩ 1 1 [.string S.2] rfl rfl (World.news_of_block (heap_alloc_new _ _)) (by intro u hu; simp at hu; subst hu; rfl) (by unfold maxLen; omega) (by omega) (by have := HB.out.size; simp; omega) ?_; intro v5 w5 hown hgrow hnil))
        have HR5 := Lib.hid (show w5.ownsRow w.heap.size 9 1 v5 L.length (strs L) from by rw [HE.out, List.length_append, strs_two]; exact hown)
        have HB5 := Lib.hid ((HB.out.alloc HB.out.size (.cells #[.string S.2] 9)).grown hgrow (by have := HB.out.size; simp; omega) (fun k hk => (HR.out.lt k hk).1))
        clear hown hgrow hnil
        go_ret
        exact ⟨_, rfl, HR5.out, HB5.out⟩

/-! ### few names; two lists -/
def FewRel (l : List ByteArray) (w : World) (v : Value) (wr : World) : Prop :=
  ∃ k : Nat, v = .int .i64 (k : Int) ∧ k ≤ l.length ∧ k ≤ 200 ∧ Hid (∀ j, j < k → (atL l j).size ≤ 100) ∧ w = wr
set_option maxHeartbeats 2000000 in
theorem few_any (l : List ByteArray) (a : Option Addr) (cap : Nat) (w : World) (H : InL w a l) (hl : l.length ≤ 9223372036854775807) :
    Calls Tryd.prog 6 #[.slice a l.length cap, .int .i64 30] w fun e w' => (∃ b, e = .returned (.bool b) ∧ (b = true → l.length ≤ 30 ∧ ∀ x ∈ l, x.size ≤ 100)) ∧ w = w' := by
  have HX := Lib.hid H
  clear H
  go_enter Tryd.func6, Tryd.ntmps6
  go_wp2
  go_loopw [5] (FewRel l w) (fun v _ => 200 - (intOf v).toNat)
  case atStart => exact ⟨0, rfl, Nat.zero_le _, Nat.zero_le _, Lib.hid fun j hj => by omega, rfl⟩
  case round =>
    obtain ⟨k, rfl, hk, hk2, HK, rfl⟩ := hrel
    have stop : ¬ (k < l.length ∧ k < 200) → (l.length ≤ 30 → l.length ≤ 30 ∧ ∀ x ∈ l, x.size ≤ 100) := fun h h30 => ⟨h30, fun x hx => by
      obtain ⟨j, hj, rfl⟩ := List.getElem_of_mem hx
      have e : atL l j = l[j] := by unfold atL; rw [List.getD_eq_getElem?_getD, List.getElem?_eq_getElem hj]; rfl
      rw [← e]
      exact HK.out j (by omega)⟩
    have HSt := Lib.hid stop
    clear stop
    by_cases h1 : k < l.length
    · have e1 : decide ((k : Int) < (l.length : Int)) = true := decide_eq_true (by omega)
      by_cases h2 : k < 200
      · have e2 : decide ((k : Int) < 200) = true := decide_eq_true (by omega)
        rcases HX.out with q | ⟨b, off, rfl, hcs⟩
        · omega
        have hcell := hcs k h1
        clear hcs
        generalize hS : atL l k = S at *
        have HS := Lib.hid hS
        clear hS
        by_cases h3 : 100 < S.size
        · have e3 : decide ((100 : Int) < (S.size : Int)) = true := decide_eq_true (by omega)
          go_wp2_with fail
          go_ret
          exact ⟨⟨false, rfl, fun z => by cases z⟩, rfl⟩
        · have e3 : decide ((100 : Int) < (S.size : Int)) = false := decide_eq_false (by omega)
          go_wp2_with fail
          go_roundw
          case rel => exact ⟨k + 1, by go_num, by omega, by omega, Lib.hid fun j hj => by
            by_cases q : j = k
            · rw [q, HS.out]; omega
            · exact HK.out j (by omega), rfl⟩
          case measure => simp [intOf]; omega
      · have e2 : decide ((k : Int) < 200) = false := decide_eq_false (by omega)
        have HF := Lib.hid (HSt.out (by omega))
        go_wp2_with fail
        go_ret
        exact ⟨⟨_, rfl, fun z => HF.out (by have := of_decide_eq_true z; omega)⟩, rfl⟩
    · have e1 : decide ((k : Int) < (l.length : Int)) = false := decide_eq_false (by omega)
      have HF := Lib.hid (HSt.out (by omega))
      go_wp2_with fail
      go_ret
      exact ⟨⟨_, rfl, fun z => HF.out (by have := of_decide_eq_true z; omega)⟩, rfl⟩
def SameRel (n : Nat) (w : World) (v : Value) (wr : World) : Prop := ∃ k : Nat, v = .int .i64 (k : Int) ∧ k ≤ n ∧ Hid (Below w.heap.size w wr)
set_option maxHeartbeats 4000000 in
theorem same_any (x : List ByteArray) (a1 a2 : Option Addr) (c1 c2 : Nat) (w : World) (H1 : InL w a1 x) (H2 : InL w a2 x) (hl : x.length ≤ 1000000) :
    Calls Tryd.prog 8 #[.slice a1 x.length c1, .slice a2 x.length c2] w fun e w' => e = .returned (.bool true) ∧ Below w.heap.size w w' := by
  have HX := Lib.hid H1
  have HY := Lib.hid H2
  clear H1 H2
  have d0 : ((x.length : Int) != (x.length : Int)) = false := by simp
  go_enter Tryd.func8, Tryd.ntmps8
  go_wp2
  go_loopw [5] (SameRel x.length w) (fun v _ => x.length - (intOf v).toNat)
  case atStart => exact ⟨0, rfl, Nat.zero_le _, Lib.hid (Below.refl _ _)⟩
  case round =>
    obtain ⟨k, rfl, hk, HB⟩ := hrel
    by_cases h1 : k < x.length
    · have e1 : decide ((k : Int) < (x.length : Int)) = true := decide_eq_true (by omega)
      rcases HX.out.keep HB.out with q | ⟨b, off, rfl, hcs⟩
      · omega
      rcases HY.out.keep HB.out with q | ⟨b2, off2, rfl, hcs2⟩
      · omega
      have g1 := hcs k h1
      have g2 := hcs2 k h1
      clear hcs hcs2
      generalize atL x k = S at *
      have hne : (S.toList != S.toList) = false := by simp
      go_upto_region 6 with fail
      go_quiet (fail)
      have HB2 := Lib.hid (show Below w.heap.size w (wr.drewN nq) from below_drewNb HB.out)
      generalize wr.drewN nq = w2 at *
      clear g1 g2
      go_wp2_with fail
      go_roundw
      case rel => exact ⟨k + 1, by go_num, by omega, HB2⟩
      case measure => simp [intOf]; omega
    · have e1 : decide ((k : Int) < (x.length : Int)) = false := decide_eq_false (by omega)
      go_wp2_with fail
      go_ret
      exact ⟨rfl, HB.out⟩
end Go.Proofs.YtemnbleacjpfcaaDoor.L
