/-
  What the reference's Version returns. Conditions: texts of at most 60000 bytes.
-/
import Derived.Test.YteeddednonmglaaDoorOTok
set_option linter.unusedVariables false
namespace Go.Proofs.YteeddednonmglaaDoor
open Go.RowKit

def VerRel (X Y : List (List UInt8)) (w w0 : World) (v : Value) (wr : World) : Prop :=
  ∃ k : Nat, k ≤ X.length ∧ k ≤ Y.length ∧ v = .int .i64 (k : Int) ∧ Hid (lexC lessL X Y = lexC lessL (X.drop k) (Y.drop k)) ∧ Hid (Below w.heap.size w wr) ∧ Hid (Below w0.heap.size w0 wr)
theorem strs_at {T : List (List UInt8)} {k : Nat} {t : List UInt8} (h : T[k]? = some t) : (strs (T.map mkB))[k]? = some (.string (mkB t)) := by
  unfold strs
  rw [List.getElem?_map, List.getElem?_map, h]
  rfl
set_option maxRecDepth 100000 in
set_option maxHeartbeats 8000000 in
theorem rversion_any (a b : ByteArray) (w : World) (ha : a.size ≤ 60000) (hb : b.size ≤ 60000) :
    Calls Tryd.prog 16 #[.string a, .string b] w fun e w' => e = .returned (.int .i64 (verL a.data.toList b.data.toList)) ∧ Below w.heap.size w w' := by
  have HTa := Lib.hid (rtokens_any a w ha)
  have HTb := Lib.hid (fun W => rtokens_any b W hb)
  obtain ⟨xl, xs⟩ := toks_len a.data.toList
  obtain ⟨yl, ys⟩ := toks_len b.data.toList
  rw [size_list] at xl xs
  rw [size_list] at yl ys
  unfold verL
  generalize toks a.data.toList = X at HTa xl xs ⊢
  generalize toks b.data.toList = Y at HTb yl ys ⊢
  have HXs := Lib.hid xs
  have HYs := Lib.hid ys
  clear xs ys
  go_enter Tryd.func16, Tryd.ntmps16
  go_upto_region 1 with fail
  iterate 6 go_step
  go_at_call 30
  refine HTa.out.mono ?_
  rintro e w2 ⟨vx, rfl, ho2, hb2⟩
  obtain ⟨ox, cx, rfl⟩ := owns_form ho2
  have HO2 := Lib.hid ho2
  have HB2 := Lib.hid hb2
  clear ho2 hb2
  go_upto_region 2 with (go_at_call 30; refine (HTb.out _).mono ?_; rintro e w3 ⟨vy, rfl, ho3, hb3⟩; obtain ⟨oy, cy, rfl⟩ := owns_form ho3; have HO3 := Lib.hid ho3; have HB3 := Lib.hid hb3; clear ho3 hb3)
  have HX3 := Lib.hid (owns_to HO2.out HB3.out)
  have HBw := Lib.hid (below_two HB2.out HB3.out)
  clear HTa HTb HO2 HB2
  go_wp2_with fail
  go_loopw [7] (VerRel X Y w w3) (fun v _ => X.length - (intOf v).toNat)
  case atStart => exact ⟨0, Nat.zero_le _, Nat.zero_le _, rfl, Lib.hid rfl, HBw, Lib.hid (Below.refl _ _)⟩
  case round =>
    obtain ⟨k, ka, kb, rfl, HL, HB, HB4⟩ := hrel
    by_cases h1 : k < X.length
    · have e1 : decide ((k : Int) < (X.length : Int)) = true := decide_eq_true (by omega)
      by_cases h2 : k < Y.length
      · have e2 : decide ((k : Int) < (Y.length : Int)) = true := decide_eq_true (by omega)
        obtain ⟨x, hx⟩ : ∃ x, X[k]? = some x := ⟨_, List.getElem?_eq_getElem h1⟩
        obtain ⟨y, hy⟩ : ∃ y, Y[k]? = some y := ⟨_, List.getElem?_eq_getElem h2⟩
        have HS := Lib.hid (HL.out.trans (lex_step hx hy))
        have HX4 := Lib.hid (owns_to HX3.out HB4.out)
        have HY4 := Lib.hid (owns_to HO3.out HB4.out)
        have hlx : (strs (X.map mkB)).length = X.length := by unfold strs; simp
        obtain ⟨gx, cx', ex, _, _⟩ := owns_some HX4.out (by omega)
        obtain ⟨gy, cy', ey, _, _⟩ := owns_some HY4.out (by omega)
        simp only [Value.slice.injEq] at ex ey
        obtain ⟨rfl, _, rfl⟩ := ex
        obtain ⟨rfl, _, rfl⟩ := ey
        have a0 : ∀ n, (wr.drewN n).cell? ⟨gx, k, none⟩ = some (.string (mkB x)) := fun n => owns_cell HX4.out (strs_at hx)
        have a1 : ∀ n, (wr.drewN n).cell? ⟨gy, k, none⟩ = some (.string (mkB y)) := fun n => owns_cell HY4.out (strs_at hy)
        have b0 : wr.cell? ⟨gx, k, none⟩ = some (.string (mkB x)) := owns_cell HX4.out (strs_at hx)
        have b1 : wr.cell? ⟨gy, k, none⟩ = some (.string (mkB y)) := owns_cell HY4.out (strs_at hy)
        have HLs := Lib.hid (fun W => rless_any (mkB x) (mkB y) W (by rw [← size_list, mkB_list]; have := HXs.out x (List.mem_of_getElem? hx); omega) (by rw [← size_list, mkB_list]; have := HYs.out y (List.mem_of_getElem? hy); omega))
        simp only [mkB_list] at HLs
        clear hx hy HL
        go_upto_region 5 with fail
        go_quiet (first | (go_at_call 25; refine Calls.quiet_of (HLs.out _)))
        have HBd := Lib.hid (show Below w.heap.size w (wr.drewN nq) from below_drewN' HB.out)
        have HBe := Lib.hid (show Below w3.heap.size w3 (wr.drewN nq) from below_drewN' HB4.out)
        generalize wr.drewN nq = w5 at HBd HBe ⊢
        by_cases q : lessL x y = 0
        · rw [if_pos q] at HS
          rw [q]
          go_wp2_with fail
          go_roundw
          case rel => exact ⟨k + 1, by omega, by omega, by simp, HS, HBd, HBe⟩
          case measure => simp [intOf]; omega
        · rw [if_neg q] at HS
          have d0 : (lessL x y != 0) = true := by simpa using q
          go_wp2_with fail
          go_ret
          exact ⟨ret_int HS.out.symm, HBd.out⟩
      · have e2 : decide ((k : Int) < (Y.length : Int)) = false := decide_eq_false (by omega)
        have HE := Lib.hid (HL.out.trans (lex_end (.inr (by omega)) (by omega) (by omega)))
        by_cases q1 : X.length < Y.length
        · rw [if_pos q1] at HE
          go_wp2_with fail
          go_ret
          exact ⟨ret_int HE.out.symm, HB.out⟩
        · rw [if_neg q1] at HE
          by_cases q2 : Y.length < X.length
          · rw [if_pos q2] at HE
            go_wp2_with fail
            go_ret
            exact ⟨ret_int HE.out.symm, HB.out⟩
          · rw [if_neg q2] at HE
            go_wp2_with fail
            go_ret
            exact ⟨ret_int HE.out.symm, HB.out⟩
    · have e1 : decide ((k : Int) < (X.length : Int)) = false := decide_eq_false (by omega)
      have HE := Lib.hid (HL.out.trans (lex_end (.inl (by omega)) (by omega) (by omega)))
      by_cases q1 : X.length < Y.length
      · rw [if_pos q1] at HE
        go_wp2_with fail
        go_ret
        exact ⟨ret_int HE.out.symm, HB.out⟩
      · rw [if_neg q1] at HE
        by_cases q2 : Y.length < X.length
        · rw [if_pos q2] at HE
          go_wp2_with fail
          go_ret
          exact ⟨ret_int HE.out.symm, HB.out⟩
        · rw [if_neg q2] at HE
          go_wp2_with fail
          go_ret
          exact ⟨ret_int HE.out.symm, HB.out⟩
end Go.Proofs.YteeddednonmglaaDoor
