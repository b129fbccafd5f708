/-
  The law StampParts, walked: it returns true. Conditions: the time and the offset are int64s; the library's tables and the package's lie as their text lays them.
-/
import Derived.Test.YtiegibgllnojcaaDoorSStylesLaw
set_option linter.unusedVariables false
namespace Go.Proofs.YtiegibgllnojcaaDoor
open Go.RowKit

theorem parts_one (t o : Int) : fmtT t o [37, 70, 32, 37, 84] = fmtT t o [37, 89, 45, 37, 109, 45, 37, 100, 32, 37, 72, 58, 37, 77, 58, 37, 83] := by
  rw [fmtT_F]
  have a := fmtT_append t o [37, 89, 45, 37, 109, 45, 37, 100, 32] [37, 72, 58, 37, 77, 58, 37, 83] (by decide)
  have b := fmtT_append t o [37, 89, 45, 37, 109, 45, 37, 100, 32] [37, 84] (by decide)
  rw [fmtT_T] at b
  exact b.trans a.symm
theorem parts_two {t o y m d h i s wd yd : Int} (e : oneT t o = oneL t o y m d h i s wd yd) : fmtT t o [37, 89, 32, 37, 106] = Lib.itoa y ++ [32] ++ threeL yd.toNat := by
  rw [fmtT_told (e := 89) (s := Lib.itoa y) _ (by rw [e]; rfl), fmtT_plain _ _ _ (by decide), fmtT_told (e := 106) (s := threeL yd.toNat) _ (by rw [e]; rfl)]
  unfold fmtT
  rw [fmtL_nil]
  simp only [List.append_assoc, List.cons_append, List.nil_append, List.append_nil]
theorem two_more (P : Program) (a b : List UInt8) (ha : a.length ≤ 20) (hb : b.length ≤ 20) : ∃ b1 b2 : ByteArray,
    (∀ w : World, (Op.stringOp .add (txt a) ⟨#[32]⟩).run P w = .ok (.string b1) w) ∧ (∀ w : World, (Op.stringOp .add b1 (txt b)).run P w = .ok (.string b2) w) ∧ b2 = txt (a ++ [32] ++ b) := by
  have e : (⟨#[32]⟩ : ByteArray) = txt [32] := rfl
  rw [e]
  refine ⟨txt (a ++ [32]), _, fun w => ?_, fun w => ?_, rfl⟩
  all_goals rw [run_string_add_sum _ _ _ (by simp only [txt_size, List.length_append, List.length_cons, List.length_nil]; omega), txt_append]

def textOf : Value → ByteArray | .string s => s | _ => ByteArray.empty
def PadRel (l : List UInt8) (wl : World) (v : Value) (w' : World) : Prop := ∃ j : Nat, v = .string (txt (List.replicate j 48 ++ l)) ∧ j + l.length ≤ 3 ∧ wl = w'
theorem nought_more (j : Nat) (l : List UInt8) : txt [48] ++ txt (List.replicate j 48 ++ l) = txt (List.replicate (j + 1) 48 ++ l) := by
  rw [txt_append, List.replicate_succ]
  rfl
theorem rep_eq {l l2 : List UInt8} {j : Nat} (h : List.replicate (3 - l.length) 48 ++ l = l2) (hj : j + l.length ≤ 3) (hs : ¬ (j + l.length) < 3) : List.replicate j 48 ++ l = l2 := by
  rw [← h, show j = 3 - l.length by omega]

theorem one_of {f : FuncId} {args : Array Value} {v : Value} {w w0 : World} {B : Nat} {y m d h i s wd yd : Int} (k : InOne w B y m d h i s wd yd w0) (c : Calls Tryd.prog f args w0 fun e w' => e = .returned v ∧ Below w0.heap.size w0 w') :
    Calls Tryd.prog f args w0 fun e w' => e = .returned v ∧ InOne w B y m d h i s wd yd w' := c.mono fun e w' ⟨he, hb⟩ => ⟨he, k.keep hb⟩
set_option maxHeartbeats 20000000 in
set_option maxRecDepth 100000 in
theorem parts_walk (t o : Int) (w : World) (t0 : -9223372036854775808 ≤ t) (t1 : t ≤ 9223372036854775807) (o0 : -9223372036854775808 ≤ o) (o1 : o ≤ 9223372036854775807) (hT : STab w) :
    Calls Tryd.prog 3 #[.int .i64 t, .int .i64 o] w fun e w' => e = .returned (.bool true) ∧ Below w.heap.size w w' := by
  have HT := Lib.hid hT
  obtain ⟨y, m, d, h, i, s, wd, yd, hv, hone, B⟩ := date_of t o t0 t1 o0 o1
  have BB := Lib.hid B
  have cO := of_any t o w t0 t1 hT.len
  rw [hv, agg_of] at cO
  have h3 := three_of yd B.yd0 B.yd1
  obtain ⟨l1, l2⟩ := itoa_two_len yd B.yd0 B.yd1
  have cD := fun (wx : World) (hx : STab wx) => dec_any yd wx (by have := B.yd0; omega) (by have := B.yd1; omega) hx.pow
  have cY := fun (wx : World) (hx : STab wx) => dec_any y wx B.y0 B.y1 hx.pow
  rw [show (⟨(Lib.itoa y).toArray⟩ : ByteArray) = txt (Lib.itoa y) from rfl] at cY
  rw [show (⟨(Lib.itoa yd).toArray⟩ : ByteArray) = txt (Lib.itoa yd) from rfl] at cD
  obtain ⟨b1, b2, a1, a2, hb2⟩ := two_more Tryd.prog (Lib.itoa y) (threeL yd.toNat) (itoa_len y B.y0 B.y1) (by rw [three_len]; omega)
  have c1 := fun (wx : World) (hx : STab wx) => fmt_from (t := t) (o := o) #[37, 70, 32, 37, 84] (by decide) wx hx t0 t1 o0 o1 rfl
  have c2 := fun (wx : World) (hx : STab wx) => fmt_from (t := t) (o := o) #[37, 89, 45, 37, 109, 45, 37, 100, 32, 37, 72, 58, 37, 77, 58, 37, 83] (by decide) wx hx t0 t1 o0 o1 (parts_one t o).symm
  have c3 := fun (wx : World) (hx : STab wx) => fmt_from (t := t) (o := o) #[37, 89, 32, 37, 106] (by decide) wx hx t0 t1 o0 o1 (parts_two hone)
  rw [← hb2] at c3
  change ∀ wx : World, STab wx → Calls Tryd.prog 10 #[.string ⟨#[37, 70, 32, 37, 84]⟩, .int .i64 t, .int .i64 o] wx fun e w' => e = .returned (.string (txt (fmtT t o [37, 70, 32, 37, 84]))) ∧ Below wx.heap.size wx w' at c1
  generalize Lib.itoa yd = l at *
  generalize txt (fmtT t o [37, 70, 32, 37, 84]) = S1 at *
  generalize txt (Lib.itoa y) = Y at *
  have hq1 : (S1.toList == S1.toList) = true := beq_self_eq_true _
  have hq2 : (b2.toList == b2.toList) = true := beq_self_eq_true _
  have H1 := Lib.hid c1
  have H2 := Lib.hid c2
  have H3 := Lib.hid c3
  have HD := Lib.hid cD
  have HY := Lib.hid cY
  have H33 := Lib.hid h3
  clear hT hv hone B h3 cD cY c1 c2 c3 hb2
  go_enter Tryd.func3, Tryd.ntmps3
  go_wp2_with fail
  refine cO.mono ?_
  rintro e w1 ⟨rfl, hb⟩
  have HK := Lib.hid (InOne.start hb y m d h i s wd yd)
  clear hb cO
  go_wp2_with fail
  refine (HD.out _ (HT.out.keep HK.out.below)).mono ?_
  rintro e w2 ⟨rfl, hb⟩
  have HK2 := Lib.hid (HK.out.keep hb)
  clear hb HK
  go_wp2_with fail
  go_loopw [6] (PadRel l w2) (fun v _ => 3 - (textOf v).size)
  case atStart => exact ⟨0, rfl, by omega, rfl⟩
  case round =>
    obtain ⟨j, rfl, hj, rfl⟩ := hrel
    have hz := txt_size (List.replicate j 48 ++ l)
    rw [List.length_append, List.length_replicate] at hz
    have HN := Lib.hid (nought_more j l)
    have HR := Lib.hid (fun hs => rep_eq (j := j) H33.out hj hs)
    have hadd : ∀ w : World, (Op.stringOp .add ⟨#[48]⟩ (txt (List.replicate j 48 ++ l))).run Tryd.prog w = .ok (.string (txt (List.replicate (j + 1) 48 ++ l))) w := fun w => by
      rw [run_string_add_sum w _ _ (by rw [hz]; show 1 + _ ≤ _; omega)]
      exact congrArg (fun s => Result.ok (Value.string s) w) HN.out
    have hz2 := txt_size (List.replicate (j + 1) 48 ++ l)
    rw [List.length_append, List.length_replicate] at hz2
    by_cases hs : j + l.length < 3
    · obtain ⟨X, hX⟩ : ∃ X, txt (List.replicate j 48 ++ l) = X := ⟨_, rfl⟩
      obtain ⟨Z, hZ⟩ : ∃ Z, txt (List.replicate (j + 1) 48 ++ l) = Z := ⟨_, rfl⟩
      rw [hX, hZ] at hadd
      rw [hX] at hz
      rw [hZ] at hz2
      rw [hX]
      have HZ := Lib.hid hZ
      clear hX hZ
      go_wp2_with fail
      go_roundw
      case rel => exact ⟨j + 1, by rw [HZ.out], by omega, rfl⟩
      case measure =>
        show 3 - Z.size < 3 - X.size
        omega
    · rw [HR.out hs] at hz ⊢
      clear hadd hz2
      have hk := HK2.out
      go_wp2_with fail
      clear HK2
      have HA := Lib.hid (fun (wx : World) (k : InOne w w1.heap.size y m d h i s wd yd wx) => one_of k (awake_any wx (HT.out.keep k.below)))
      have H1 := Lib.hid (fun (wx : World) (k : InOne w w1.heap.size y m d h i s wd yd wx) => one_of k (H1.out wx (HT.out.keep k.below)))
      have H2 := Lib.hid (fun (wx : World) (k : InOne w w1.heap.size y m d h i s wd yd wx) => one_of k (H2.out wx (HT.out.keep k.below)))
      have H3 := Lib.hid (fun (wx : World) (k : InOne w w1.heap.size y m d h i s wd yd wx) => one_of k (H3.out wx (HT.out.keep k.below)))
      have HY := Lib.hid (fun (wx : World) (k : InOne w w1.heap.size y m d h i s wd yd wx) => one_of k (HY.out wx (HT.out.keep k.below)))
      generalize w1.heap.size = B0 at *
      go_region_held3 (fun w' => InOne w B0 y m d h i s wd yd w' ∧ w'.cell? ⟨B0, 0, none⟩ = some (.int .i64 y)) (first | exact ⟨hk, hk.c0⟩ | exact ⟨hk.drew, hk.c0⟩)
        (first | (go_at_call 9; refine (HA.out _ (And.left (by assumption))).mono ?_; rintro e w3 ⟨rfl, hk⟩) | (go_at_call 8; refine (HY.out _ (And.left (by assumption))).mono ?_; rintro e w3 ⟨rfl, hk⟩) | (go_at_call 10; with_reducible refine (H1.out _ (And.left (by assumption))).mono ?_; rintro e w3 ⟨rfl, hk⟩) | (go_at_call 10; with_reducible refine (H2.out _ (And.left (by assumption))).mono ?_; rintro e w3 ⟨rfl, hk⟩) | (go_at_call 10; with_reducible refine (H3.out _ (And.left (by assumption))).mono ?_; rintro e w3 ⟨rfl, hk⟩))
      go_wp2_with fail
      go_ret
      exact ⟨rfl, hk.below⟩
end Go.Proofs.YtiegibgllnojcaaDoor
