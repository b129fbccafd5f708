/-
  That the law OptsLast returns true. Conditions: what came in lies in memory, letters are bytes; the library's variable holds some number.
-/
import Derived.Test.YtboolblccahadaaALast
import Derived.Test.YtboolblccahadaaASame
set_option linter.unusedVariables false
set_option linter.unusedSimpArgs false
namespace Go.Proofs.Ytboolblccahadaa.A
open Go.Proofs.Ytboolblccahadaa.B
open Go.RowKit

theorem oneOf_take {s : List UInt8} {k : Nat} {c : UInt8} (h : s[k]? = some c) (o : Op) : oneOf (s.take (k + 1)) o = (oneOf (s.take k) o || decide (o.letter = (c.toNat : Int))) := by
  unfold oneOf
  rw [List.take_add_one, h, List.any_append]
  simp
theorem last_single (c : UInt8) (l : List Op) : (lastM l [c]).isSome = l.any fun o => decide (o.letter = (c.toNat : Int)) := by
  rw [Bool.eq_iff_iff, last_def, List.find?_isSome, List.any_eq_true]
  simp [oneOf]
/-- What the last one is behind i options, and k letters of the next. -/
def lstK (l : List Op) (s : List UInt8) (i : Nat) (o : Op) (k : Nat) : Option Op := if oneOf (s.take k) o = true then some o else lastM (l.take i) s
def LoRel (l : List Op) (s : List UInt8) (w : World) (B5 : Nat) (v k : Value) (wr : World) : Prop := ∃ i : Nat, i ≤ l.length ∧ k = .int .i64 (i : Int) ∧ v = .bool (lastM (l.take i) s).isSome ∧ Hid (Below w.heap.size w wr) ∧ Hid (wr.heap[B5]? = some (.cells (opC ((lastM (l.take i) s).getD noOp)).toArray 35 (0, 0)))
def LiRel (l : List Op) (s : List UInt8) (w : World) (B5 : Nat) (i : Nat) (o : Op) (v k : Value) (wr : World) : Prop := ∃ m : Nat, m ≤ s.length ∧ k = .int .i64 (m : Int) ∧ v = .bool (lstK l s i o m).isSome ∧ Hid (Below w.heap.size w wr) ∧ Hid (wr.heap[B5]? = some (.cells (opC ((lstK l s i o m).getD noOp)).toArray 35 (0, 0)))
set_option maxRecDepth 100000 in
set_option maxHeartbeats 8000000 in
theorem lasts_any (l : List Op) (s : ByteArray) (a : Option Addr) (cap : Nat) (w : World) (H : RowL 2 opC w a l) (hl : l.length ≤ 9223372036854775807) (hw : ∀ o ∈ l, (0 ≤ o.letter ∧ o.letter < 256) ∧ o.value.size ≤ 9223372036854775807) (hs : s.size ≤ 9223372036854775807) (hm : MaxT w) :
    Calls Try.prog 5 #[.slice a l.length cap, .string s] w fun e w' => e = .returned (.bool true) ∧ Below w.heap.size w w' := by
  have HR := Lib.hid H
  have HW := Lib.hid hw
  have HAw := Lib.hid (fun W (hb : Below w.heap.size w W) => awake_any W (hm.keep hb))
  clear H hw hm
  go_enter Try.func5, Try.ntmps5
  go_wp2_with fail
  refine (HAw.out _ (Below.refl _ _)).mono ?_
  rintro e w2 ⟨rfl, hb2⟩
  have HB2 := Lib.hid hb2
  clear hb2
  by_cases h60 : 60 < l.length
  · have d1 : decide ((60 : Int) < (l.length : Int)) = true := decide_eq_true (by omega)
    go_wp2_with fail
    refine (HAw.out _ HB2.out).mono ?_
    rintro e w4 ⟨rfl, hb4⟩
    have HB4 := Lib.hid (below_two HB2.out hb4)
    clear hb4
    go_wp2_with fail
    go_ret
    exact ⟨rfl, HB4.out⟩
  · have d1 : decide ((60 : Int) < (l.length : Int)) = false := decide_eq_false (by omega)
    by_cases h61 : 60 < s.size
    · have d2 : decide ((60 : Int) < (s.size : Int)) = true := decide_eq_true (by omega)
      go_wp2_with fail
      refine (HAw.out _ HB2.out).mono ?_
      rintro e w4 ⟨rfl, hb4⟩
      have HB4 := Lib.hid (below_two HB2.out hb4)
      clear hb4
      go_wp2_with fail
      go_ret
      exact ⟨rfl, HB4.out⟩
    · have d2 : decide ((60 : Int) < (s.size : Int)) = false := decide_eq_false (by omega)
      go_wp2_with fail
      have HB4 := Lib.hid (HB2.out.alloc HB2.out.size (.cells #[.int .u8 0, .string ⟨#[]⟩] 35))
      have HX4 := Lib.hid (heap_alloc_new w2 (.cells #[.int .u8 0, .string ⟨#[]⟩] 35))
      generalize w2.alloc (.cells #[.int .u8 0, .string ⟨#[]⟩] 35) = w4 at HB4 HX4 ⊢
      obtain ⟨B5, hB5⟩ : ∃ B5, w2.heap.size = B5 := ⟨_, rfl⟩
      have HG := Lib.hid (show w.heap.size ≤ B5 from by rw [← hB5]; exact HB2.out.size)
      rw [hB5] at HX4 ⊢
      clear hB5 d2
      go_loopw [6, 7] (LoRel l (listB s) w B5) (fun _ v _ => l.length - (intOf v).toNat)
      case atStart => exact ⟨0, Nat.zero_le _, rfl, rfl, HB4, HX4⟩
      case round =>
        obtain ⟨i, hi, rfl, rfl, HB, HX⟩ := hrel
        by_cases hlt : i < l.length
        · have e1 : decide ((i : Int) < (l.length : Int)) = true := decide_eq_true (by omega)
          obtain ⟨o, ho⟩ : ∃ o, l[i]? = some o := ⟨_, List.getElem?_eq_getElem hlt⟩
          have HOo := Lib.hid ho
          have HTk := Lib.hid (last_take (s := listB s) ho)
          have HC := Lib.hid (show ∀ W, Below w.heap.size w W → ∃ g of, a = some ⟨g, of, none⟩ ∧ W.cell? ⟨g, of + i * 2, none⟩ = some (.int .u8 o.letter) ∧ W.cell? ⟨g, of + i * 2 + 1, none⟩ = some (.string o.value) from fun W hb => by
            obtain ⟨g, of, e, _, hr⟩ := (HR.out.keep hb).at_ HOo.out
            exact ⟨g, of, e, hr 0 _ rfl, hr 1 _ rfl⟩)
          clear ho
          have hst : lastM (l.take i) (listB s) = lstK l (listB s) i o 0 := by
            unfold lstK oneOf
            rw [List.take_zero]
            simp
          rw [hst] at HX ⊢
          clear hst
          go_wp2_with fail
          go_loopw [6, 8] (LiRel l (listB s) w B5 i o) (fun _ v _ => s.size - (intOf v).toNat)
          case atStart => exact ⟨0, Nat.zero_le _, rfl, rfl, HB, HX⟩
          case round =>
            obtain ⟨m, hm, rfl, rfl, HB, HX⟩ := hrel
            rw [listB_len] at hm
            by_cases hms : m < s.size
            · have e2 : decide ((m : Int) < (s.size : Int)) = true := decide_eq_true (by omega)
              obtain ⟨c, hc⟩ : ∃ c, s[m]'hms = c := ⟨_, rfl⟩
              have hcs : (listB s)[m]? = some c := by
                have : (listB s)[m]? = some (s[m]'hms) := list_at hms
                rw [this, hc]
              have HO1 := Lib.hid (oneOf_take hcs o)
              clear hcs
              obtain ⟨g, of, rfl, r0, r1⟩ := HC.out wr HB.out
              have n0 : ∀ n, (wr.drewN n).cell? ⟨g, of + i * 2, none⟩ = some (.int .u8 o.letter) := fun n => by
                obtain ⟨g', of', e, q, _⟩ := HC.out _ (below_drewNb (n := n) HB.out)
                simp only [Option.some.injEq, Addr.mk.injEq] at e
                obtain ⟨rfl, rfl, _⟩ := e
                exact q
              by_cases hoc : o.letter = (c.toNat : Int)
              · have q1 : (o.letter == (c.toNat : Int)) = true := beq_iff_eq.2 hoc
                have HN := Lib.hid (show lstK l (listB s) i o (m + 1) = some o from by
                  unfold lstK
                  rw [HO1.out, decide_eq_true hoc, Bool.or_true, if_pos rfl])
                clear hoc
                go_upto_region 10 with fail
                go_quiet (fail)
                have HBq := Lib.hid (show Below w.heap.size w (wr.drewN nq) from below_drewNb HB.out)
                have HXq := Lib.hid (show (wr.drewN nq).heap[B5]? = some (.cells (opC ((lstK l (listB s) i o m).getD noOp)).toArray 35 (0, 0)) from HX.out)
                have s0 : (wr.drewN nq).cell? ⟨g, of + i * 2, none⟩ = some (.int .u8 o.letter) := n0 nq
                have s1 : (wr.drewN nq).cell? ⟨g, of + i * 2 + 1, none⟩ = some (.string o.value) := r1
                generalize wr.drewN nq = w6 at HBq HXq s0 s1 ⊢
                clear n0 r0 r1
                go_wp2_with (refine wpList_store_row rfl 35 (.tmp 5) (.tmp 49) rfl B5 (opC o).toArray rfl rfl _ _ HXq.out sizeOp rfl (by simp [opC, Value.oneCell']) ?_)
                go_roundw
                case rel => exact ⟨m + 1, by rw [listB_len]; omega, by simp, by rw [HN.out]; rfl, Lib.hid (below_setRow HBq.out HG.out _), Lib.hid (by rw [HN.out]; exact setRow_heap _ _ _ _ _ _ HXq.out)⟩
                case measure => simp [intOf]; omega
              · have q1 : (o.letter == (c.toNat : Int)) = false := beq_eq_false_iff_ne.2 hoc
                have HN := Lib.hid (show lstK l (listB s) i o (m + 1) = lstK l (listB s) i o m from by
                  unfold lstK
                  rw [HO1.out, decide_eq_false hoc, Bool.or_false])
                clear hoc
                go_upto_region 10 with fail
                go_quiet (fail)
                have HBq := Lib.hid (show Below w.heap.size w (wr.drewN nq) from below_drewNb HB.out)
                have HXq := Lib.hid (show (wr.drewN nq).heap[B5]? = some (.cells (opC ((lstK l (listB s) i o m).getD noOp)).toArray 35 (0, 0)) from HX.out)
                generalize wr.drewN nq = w6 at HBq HXq ⊢
                clear n0 r0 r1
                go_wp2_with fail
                go_roundw
                case rel => exact ⟨m + 1, by rw [listB_len]; omega, by simp, by rw [HN.out], HBq, by rw [HN.out]; exact HXq⟩
                case measure => simp [intOf]; omega
            · have e2 : decide ((m : Int) < (s.size : Int)) = false := decide_eq_false (by omega)
              have HN := Lib.hid (show lastM (l.take (i + 1)) (listB s) = lstK l (listB s) i o m from by
                rw [HTk.out]
                unfold lstK
                rw [List.take_of_length_le (l := listB s) (by rw [listB_len]; omega)])
              go_wp2_with fail
              go_roundw
              case rel => exact ⟨i + 1, by omega, by simp, by rw [HN.out], HB, by rw [HN.out]; exact HX⟩
              case measure => simp [intOf]; omega
        · have e1 : decide ((i : Int) < (l.length : Int)) = false := decide_eq_false (by omega)
          obtain rfl : i = l.length := by omega
          rw [List.take_length] at HX ⊢
          have HLa := Lib.hid (last_any l s a cap wr (HR.out.keep HB.out) (by omega) (fun o ho => (HW.out o ho).1))
          have HHa := Lib.hid (fun (c : Int) (W : World) (hb : Below w.heap.size w W) => has_any l c a cap W (HR.out.keep hb) (by omega))
          have HSi := Lib.hid (fun c => last_single c l)
          unfold opR opV at HLa
          obtain ⟨R, hR⟩ : ∃ R, lastM l (listB s) = R := ⟨_, rfl⟩
          have HRr := Lib.hid hR
          rw [hR] at HX HLa ⊢
          clear hR
          generalize R.getD noOp = X at HX HLa
          generalize hbo : R.isSome = bo at HLa ⊢
          have HBo := Lib.hid hbo
          clear hbo
          have hx1 : (X.value.toList == X.value.toList) = true := beq_self_eq_true _
          by_cases h1 : s.size = 1
          · have f1 : ((s.size : Int) == 1) = true := beq_iff_eq.2 (by omega)
            have hs0 : 0 < s.size := by omega
            obtain ⟨c, hc⟩ : ∃ c, s[0]'hs0 = c := ⟨_, rfl⟩
            have hls : listB s = [c] := by
              have h2 : (listB s)[0]? = some (s[0]'hs0) := list_at hs0
              have h3 : (listB s).length = 1 := by rw [listB_len]; exact h1
              match hl : listB s, h3, h2 with
              | [d], _, h2 =>
                rw [hc] at h2
                rw [Option.some.inj h2]
            have HAn := Lib.hid (show (l.any fun o => decide (o.letter = (c.toNat : Int))) = bo from by
              rw [← last_single, ← hls, HRr.out, HBo.out])
            have HHc := Lib.hid (HHa.out (c.toNat : Int))
            rw [HAn.out] at HHc
            clear hls h1
            go_wp2_with fail
            refine HLa.out.mono ?_
            rintro e w5 ⟨rfl, hb5⟩
            have HB5 := Lib.hid (below_two HB.out hb5)
            have HX5 := Lib.hid ((hb5.block _ (heap_lt HX.out)).trans HX.out)
            clear hb5
            go_upto_region 14 with fail
            have HB6 := Lib.hid (HB5.out.alloc HB5.out.size (.cells #[.int .u8 X.letter, .string X.value] 35))
            have HZ6 := Lib.hid (heap_alloc_new w5 (.cells #[.int .u8 X.letter, .string X.value] 35))
            have HY6 := Lib.hid ((heap_alloc_old w5 (.cells #[.int .u8 X.letter, .string X.value] 35) (heap_lt HX5.out)).trans HX5.out)
            generalize w5.alloc (.cells #[.int .u8 X.letter, .string X.value] 35) = w6 at HB6 HZ6 HY6 ⊢
            go_wp2_with fail
            refine (HHc.out _ HB6.out).mono ?_
            rintro e w7 ⟨rfl, hb7⟩
            have HB7 := Lib.hid (below_two HB6.out hb7)
            have HZ := Lib.hid ((hb7.block _ (heap_lt HZ6.out)).trans HZ6.out)
            have HY := Lib.hid ((hb7.block _ (heap_lt HY6.out)).trans HY6.out)
            clear hb7
            have k0 : w7.cell? ⟨w5.heap.size, 0, none⟩ = some (.int .u8 X.letter) := by rw [cell_of_row _ _ _ _ _ _ HZ.out]; rfl
            have k1 : w7.cell? ⟨w5.heap.size, 1, none⟩ = some (.string X.value) := by rw [cell_of_row _ _ _ _ _ _ HZ.out]; rfl
            have k2 : w7.cell? ⟨B5, 0, none⟩ = some (.int .u8 X.letter) := by rw [cell_of_row _ _ _ _ _ _ HY.out]; rfl
            have k3 : w7.cell? ⟨B5, 1, none⟩ = some (.string X.value) := by rw [cell_of_row _ _ _ _ _ _ HY.out]; rfl
            cases bo with
            | true =>
              go_wp2_with fail
              go_ret
              exact ⟨rfl, HB7.out⟩
            | false =>
              go_wp2_with fail
              go_ret
              exact ⟨rfl, HB7.out⟩
          · have f1 : ((s.size : Int) == 1) = false := beq_eq_false_iff_ne.2 (by omega)
            clear h1
            go_wp2_with fail
            refine HLa.out.mono ?_
            rintro e w5 ⟨rfl, hb5⟩
            have HB5 := Lib.hid (below_two HB.out hb5)
            have HX5 := Lib.hid ((hb5.block _ (heap_lt HX.out)).trans HX.out)
            clear hb5
            go_upto_region 14 with fail
            have HB6 := Lib.hid (HB5.out.alloc HB5.out.size (.cells #[.int .u8 X.letter, .string X.value] 35))
            have HZ6 := Lib.hid (heap_alloc_new w5 (.cells #[.int .u8 X.letter, .string X.value] 35))
            have HY6 := Lib.hid ((heap_alloc_old w5 (.cells #[.int .u8 X.letter, .string X.value] 35) (heap_lt HX5.out)).trans HX5.out)
            generalize w5.alloc (.cells #[.int .u8 X.letter, .string X.value] 35) = w6 at HB6 HZ6 HY6 ⊢
            have HZ := Lib.hid HZ6.out
            have HY := Lib.hid HY6.out
            have k0 : w6.cell? ⟨w5.heap.size, 0, none⟩ = some (.int .u8 X.letter) := by rw [cell_of_row _ _ _ _ _ _ HZ.out]; rfl
            have k1 : w6.cell? ⟨w5.heap.size, 1, none⟩ = some (.string X.value) := by rw [cell_of_row _ _ _ _ _ _ HZ.out]; rfl
            have k2 : w6.cell? ⟨B5, 0, none⟩ = some (.int .u8 X.letter) := by rw [cell_of_row _ _ _ _ _ _ HY.out]; rfl
            have k3 : w6.cell? ⟨B5, 1, none⟩ = some (.string X.value) := by rw [cell_of_row _ _ _ _ _ _ HY.out]; rfl
            cases bo with
            | true =>
              go_wp2_with fail
              go_ret
              exact ⟨rfl, HB6.out⟩
            | false =>
              go_wp2_with fail
              go_ret
              exact ⟨rfl, HB6.out⟩
end Go.Proofs.Ytboolblccahadaa.A
