/-
  The law LayoutRows, walked: it returns true. Conditions: the slice that came in is nil or a row of texts; the package's table lies as its text lays it.
-/
import Derived.Test.YtemnbleacjpfcaaDoorLCom
import Derived.Test.YtemnbleacjpfcaaDoorLRefD
set_option linter.unusedVariables false
namespace Go.Proofs.YtemnbleacjpfcaaDoor.L
open Go.Proofs.YtemnbleacjpfcaaDoor.W hiding ret_int below_two
open Go.Proofs.YtemnbleacjpfcaaDoor.N hiding ret_int
open Go.Proofs.YtemnbleacjpfcaaDoor.B
open Go.RowKit

/-! ### awake -/
def abc : List ByteArray := [⟨#[97]⟩, ⟨#[98]⟩, ⟨#[99]⟩]
theorem abc_taken : takenN abc (boundZ 4) false = 2 := by decide +kernel
theorem abc_rows : rowsN abc.length (takenN abc (boundZ 4) false) = 2 := by decide +kernel
theorem abc_small : ∀ x ∈ abc, x.size ≤ 4000 := by decide +kernel
theorem abc_in (w : World) {W : World} (hW : W.heap[w.heap.size]? = some (.cells #[.string ⟨#[97]⟩, .string ⟨#[98]⟩, .string ⟨#[99]⟩] 9 (0, 0))) : InL W (some ⟨w.heap.size, 0, none⟩) abc := by
  refine .inr ⟨_, 0, rfl, fun i hi => ?_⟩
  have hi3 : i < 3 := hi
  rw [cell_of_row _ _ _ _ _ _ hW]
  match i, hi3 with
  | 0, _ => rfl
  | 1, _ => rfl
  | 2, _ => rfl
theorem two_two : (FloatKind.f64.format.order 4611686018427387904 4611686018427387904 == some .eq) = true := by decide +kernel
theorem size_two : sizeV ((2 : Nat) : Int) ((2 : Nat) : Int) = .complex .f64 4611686018427387904 4611686018427387904 := by
  have : floatOfInt .f64 ((2 : Nat) : Int) = 4611686018427387904 := float_two
  unfold sizeV
  rw [this]
theorem lawake_any (w : World) (ht : Tab w) :
    Calls Tryd.prog 5 #[] w fun e w' => e = .returned (.bool true) ∧ Below w.heap.size w w' := by
  have hbel : Below w.heap.size w (w.alloc (.cells #[.string ⟨#[97]⟩, .string ⟨#[98]⟩, .string ⟨#[99]⟩] 9)) := (Below.refl _ _).alloc (Nat.le_refl _) _
  have HS := Lib.hid (size_any abc (some ⟨w.heap.size, 0, none⟩) 3 4 false _ (abc_in w (heap_alloc_new w _)) (by decide) abc_small (by decide) (ht.keep hbel))
  rw [abc_rows, abc_taken, size_two] at HS
  have hl3 : abc.length = 3 := rfl
  rw [hl3] at HS
  have h22 := two_two
  go_enter Tryd.func5, Tryd.ntmps5
  go_wp2_with fail
  refine HS.out.mono ?_
  rintro e w2 ⟨rfl, hb⟩
  have HB := Lib.hid (below_two hbel hb)
  clear hb
  go_wp2_with fail
  go_ret
  exact ⟨rfl, HB.out⟩

/-! ### the law -/
theorem lrows_len {l : List ByteArray} {most : Int} {across : Bool} (hn : 0 < l.length) : (lrows l most across).length = rowsN l.length (bestF l most across l.length) := by
  rw [lrows_names hn, prows_len]
theorem taken_best {l : List ByteArray} {most : Int} {across : Bool} (hn : 0 < l.length) (hl : l.length ≤ 1000) (hz : ∀ x ∈ l, x.size ≤ 60000) : takenN l (boundZ most) across = bestF l most across l.length := by
  have hb := best_bound (l := l) (most := most) (across := across) (fun k hk => by
    have := sum_small (l := l) (k := k) (j := 60000) (across := across) hz
    omega) l.length (Nat.le_refl _)
  unfold takenN
  rw [if_neg (by omega), hb]
theorem float_same (z : Int) (h0 : 0 ≤ z) (h : z ≤ 1000000) : (FloatKind.f64.format.order (floatOfInt .f64 z) (floatOfInt .f64 z) == some .eq) = true := by
  rw [float_eq z z (by omega) (by omega)]
  exact decide_eq_true rfl
theorem size_none {l : List ByteArray} {most : Int} {across : Bool} (h : l.length = 0) : sizeV (takenN l (boundZ most) across : Int) (rowsN l.length (takenN l (boundZ most) across) : Int) = .complex .f64 0 0 := by
  have ht : takenN l (boundZ most) across = 0 := if_pos h
  rw [ht, h, rows_none]
  have : floatOfInt .f64 ((0 : Nat) : Int) = 0 := float_zero
  unfold sizeV
  rw [this]
theorem zero_zero : (FloatKind.f64.format.order 0 0 == some .eq) = true := by decide +kernel
set_option maxRecDepth 100000 in
set_option maxHeartbeats 16000000 in
theorem lrows_law (l : List ByteArray) (a : Option Addr) (cap : Nat) (most : Int) (w : World) (H : InL w a l) (hl : l.length ≤ 9223372036854775807) (hm : most ≤ 9223372036854775807) (ht : Tab w) :
    Calls Tryd.prog 3 #[.slice a l.length cap, .int .i64 most] w fun e w' => e = .returned (.bool true) ∧ Below w.heap.size w w' := by
  have HA := Lib.hid (fun W (hb : Below w.heap.size w W) => lawake_any W (ht.keep hb))
  have HF := Lib.hid (fun W (hb : Below w.heap.size w W) => few_any l a cap W (H.keep hb) hl)
  go_enter Tryd.func3, Tryd.ntmps3
  go_wp2_with fail
  refine (HA.out w (Below.refl _ _)).mono ?_
  rintro e w1 ⟨rfl, hb⟩
  have HB1 := Lib.hid hb
  clear hb
  go_wp2_with fail
  refine (HF.out w1 HB1.out).mono ?_
  rintro e w2 ⟨⟨b, rfl, hsm⟩, rfl⟩
  cases b with
  | false =>
    go_wp2_with fail
    refine (HA.out w1 HB1.out).mono ?_
    rintro e w2 ⟨rfl, hb⟩
    have HB2 := Lib.hid (below_two HB1.out hb)
    clear hb
    go_wp2_with fail
    go_ret
    exact ⟨rfl, HB2.out⟩
  | true =>
    obtain ⟨h30, h100⟩ := hsm rfl
    clear hsm
    have hz4 : ∀ x ∈ l, x.size ≤ 4000 := fun x hx => Nat.le_trans (h100 x hx) (by decide)
    have hz6 : ∀ x ∈ l, x.size ≤ 60000 := fun x hx => Nat.le_trans (h100 x hx) (by decide)
    have HRr := Lib.hid (fun W across (hb : Below w.heap.size w W) => rrows_any l a cap most across W (H.keep hb) (by omega) hz4)
    have HRc := Lib.hid (fun W (hb : Below w.heap.size w W) => rcommas_any l a cap most W (H.keep hb) (by omega) hz4)
    have HD := Lib.hid (fun W (hb : Below w.heap.size w W) => down_any l a cap most W (H.keep hb) (by omega) hz4 hm (ht.keep hb))
    have HAc := Lib.hid (fun W (hb : Below w.heap.size w W) => across_any l a cap most W (H.keep hb) (by omega) hz4 hm (ht.keep hb))
    have HC := Lib.hid (fun W (hb : Below w.heap.size w W) => commas_any l a cap most W (H.keep hb) (by omega) hz4 (ht.keep hb))
    have HSz := Lib.hid (fun W across (hb : Below w.heap.size w W) => size_any l a cap most across W (H.keep hb) (by omega) hz4 hm (ht.keep hb))
    have HBe := Lib.hid (fun (h1 : 1 ≤ l.length) W across (hb : Below w.heap.size w W) => rbest_any l a cap most across W (H.keep hb) (by omega) hz6 h1)
    have HLn := Lib.hid (fun (h : 0 < l.length) across => lrows_len (l := l) (most := most) (across := across) h)
    have HTb := Lib.hid (fun (h : 0 < l.length) across => taken_best (l := l) (most := most) (across := across) h (by omega) hz6)
    have HNo := Lib.hid (fun (h : l.length = 0) across => size_none (l := l) (most := most) (across := across) h)
    have HRl := Lib.hid (fun across => rows_len (l := l) (most := most) (across := across))
    have HCl := Lib.hid (show (commasL l most).length ≤ 31 from by
      unfold commasL
      split
      · exact Nat.zero_le _
      · have := (com_size (l := l) (most := most) (k := 4000) hz4 l.length (Nat.le_refl _)).2.2
        rw [List.length_append]
        show _ + 1 ≤ _
        omega)
    have HBk := Lib.hid (fun across => best_ok l most across l.length)
    clear H hz4 hz6 h100 ht
    generalize commasL l most = LC at *
    have HRf := Lib.hid (And.intro (HRl.out false) (HRl.out true))
    go_wp2_with fail
    refine (HRr.out w1 false HB1.out).mono ?_
    rintro e w2 ⟨va, rfl, ho, hb⟩
    have HB2 := Lib.hid (below_two HB1.out hb)
    have HOa := Lib.hid ho
    clear ho hb
    go_wp2_with fail
    refine (HRr.out w2 true HB2.out).mono ?_
    rintro e w3 ⟨vb, rfl, ho, hb⟩
    have HB3 := Lib.hid (below_two HB2.out hb)
    have HOa3 := Lib.hid (owns_to HOa.out hb)
    have HOb := Lib.hid ho
    clear ho hb HOa
    go_wp2_with fail
    refine (HD.out w3 HB3.out).mono ?_
    rintro e w4 ⟨vd, rfl, ho, hb⟩
    have HB4 := Lib.hid (below_two HB3.out hb)
    obtain ⟨a1, c1, rfl, i1⟩ := inL_of (owns_to HOa3.out hb)
    obtain ⟨a2, c2, rfl, i2⟩ := inL_of ho
    have HOb4 := Lib.hid (owns_to HOb.out hb)
    have HSa := Lib.hid (same_any _ a2 a1 c2 c1 w4 i2 i1 (by have := HRf.out.1; omega))
    clear ho hb i1 i2 HOa3 HOb
    go_wp2_with fail
    refine HSa.out.mono ?_
    rintro e w5 ⟨rfl, hb⟩
    have HB5 := Lib.hid (below_two HB4.out hb)
    have HOb5 := Lib.hid (owns_to HOb4.out hb)
    clear hb HSa HOb4
    go_wp2_with fail
    refine (HAc.out w5 HB5.out).mono ?_
    rintro e w6 ⟨vd, rfl, ho, hb⟩
    have HB6 := Lib.hid (below_two HB5.out hb)
    obtain ⟨a3, c3, rfl, i1⟩ := inL_of (owns_to HOb5.out hb)
    obtain ⟨a4, c4, rfl, i2⟩ := inL_of ho
    have HSa := Lib.hid (same_any _ a4 a3 c4 c3 w6 i2 i1 (by have := HRf.out.2; omega))
    clear ho hb i1 i2 HOb5
    go_wp2_with fail
    refine HSa.out.mono ?_
    rintro e w7 ⟨rfl, hb⟩
    have HB7 := Lib.hid (below_two HB6.out hb)
    clear hb HSa
    go_wp2_with fail
    refine (HC.out w7 HB7.out).mono ?_
    rintro e w8 ⟨vc, rfl, ho, hb⟩
    have HB8 := Lib.hid (below_two HB7.out hb)
    have HOc := Lib.hid ho
    clear ho hb
    go_wp2_with fail
    refine (HRc.out w8 HB8.out).mono ?_
    rintro e w9 ⟨vr, rfl, ho, hb⟩
    have HB9 := Lib.hid (below_two HB8.out hb)
    obtain ⟨a5, c5, rfl, i1⟩ := inL_of (owns_to HOc.out hb)
    obtain ⟨a6, c6, rfl, i2⟩ := inL_of ho
    have HSa := Lib.hid (same_any _ a5 a6 c5 c6 w9 i1 i2 (by have := HCl.out; omega))
    clear ho hb i1 i2 HOc
    go_wp2_with fail
    refine HSa.out.mono ?_
    rintro e w10 ⟨rfl, hb⟩
    have HB10 := Lib.hid (below_two HB9.out hb)
    clear hb HSa
    by_cases hn : l.length = 0
    · have d0 : ((l.length : Int) == 0) = true := beq_iff_eq.2 (by omega)
      have hz0 := zero_zero
      have HS0 := Lib.hid (HSz.out w10 true HB10.out)
      rw [HNo.out hn true, hn] at HS0
      go_wp2_with fail
      refine HS0.out.mono ?_
      rintro e w11 ⟨rfl, hb⟩
      have HB11 := Lib.hid (below_two HB10.out hb)
      clear hb
      go_wp2_with fail
      go_ret
      exact ⟨rfl, HB11.out⟩
    · have d0 : ((l.length : Int) == 0) = false := beq_eq_false_iff_ne.2 (by omega)
      have HS1 := Lib.hid (fun W (hb : Below w.heap.size w W) => HSz.out W false hb)
      have HS2 := Lib.hid (fun W (hb : Below w.heap.size w W) => HSz.out W true hb)
      rw [HTb.out (by omega) false, ← HLn.out (by omega) false] at HS1
      rw [HTb.out (by omega) true, ← HLn.out (by omega) true] at HS2
      have r1 := HRf.out.1
      have r2 := HRf.out.2
      obtain ⟨k1, k2, _⟩ := HBk.out false
      obtain ⟨k3, k4, _⟩ := HBk.out true
      have HBf := Lib.hid (fun W (hb : Below w.heap.size w W) => HBe.out (by omega) W false hb)
      have HBt := Lib.hid (fun W (hb : Below w.heap.size w W) => HBe.out (by omega) W true hb)
      clear HLn HTb HBk HBe HSz HRr HD HAc HC HRc HNo HRl
      generalize (lrows l most false).length = ra at *
      generalize (lrows l most true).length = rb at *
      generalize bestF l most false l.length = ca at *
      generalize bestF l most true l.length = cb at *
      have f1 := float_same (ca : Int) (by omega) (by omega)
      have f2 := float_same (ra : Int) (by omega) (by omega)
      have f3 := float_same (cb : Int) (by omega) (by omega)
      have f4 := float_same (rb : Int) (by omega) (by omega)
      go_wp2_with fail
      refine (HBf.out w10 HB10.out).mono ?_
      rintro e w11 ⟨g1, m1, rfl, rfl, _, hb⟩
      have HB11 := Lib.hid (below_two HB10.out hb)
      clear hb
      go_wp2_with fail
      refine (HBt.out w11 HB11.out).mono ?_
      rintro e w12 ⟨g2, m2, rfl, rfl, _, hb⟩
      have HB12 := Lib.hid (below_two HB11.out hb)
      clear hb
      go_wp2_with fail
      refine (HS1.out w12 HB12.out).mono ?_
      rintro e w13 ⟨rfl, hb⟩
      have HB13 := Lib.hid (below_two HB12.out hb)
      clear hb
      go_wp2_with fail
      refine (HS2.out w13 HB13.out).mono ?_
      rintro e w14 ⟨rfl, hb⟩
      have HB14 := Lib.hid (below_two HB13.out hb)
      clear hb
      go_wp2_with fail
      go_ret
      exact ⟨rfl, HB14.out⟩
theorem inL_take {W : World} {a : Option Addr} {len : Nat} {ss : List ByteArray} (h : IsTexts W a len ss) : ∃ l : List ByteArray, l.length = len ∧ InL W a l := by
  rcases h with h | ⟨b, off, rfl, h1, h2⟩
  · exact ⟨[], by rw [h]; rfl, .inl rfl⟩
  · refine ⟨ss.take len, by rw [List.length_take]; omega, .inr ⟨b, off, rfl, fun i hi => ?_⟩⟩
    rw [List.length_take] at hi
    have e : atL (ss.take len) i = ss.getD i ByteArray.empty := by
      unfold atL
      rw [List.getD_eq_getElem?_getD, List.getD_eq_getElem?_getD, List.getElem?_take, if_pos (by omega)]
    rw [e]
    exact h2 i (by omega)
theorem rows_walk (a : Option Addr) (len cap : Nat) (ss : List ByteArray) (most : Int) (w : World) (hx : IsTexts w a len ss) (hl : len ≤ 9223372036854775807) (hm : most ≤ 9223372036854775807) (ht : Tab w) :
    Calls Tryd.prog 3 #[.slice a len cap, .int .i64 most] w fun e w' => e = .returned (.bool true) ∧ Below w.heap.size w w' := by
  obtain ⟨l, rfl, h⟩ := inL_take hx
  exact lrows_law l a cap most w h hl hm ht
end Go.Proofs.YtemnbleacjpfcaaDoor.L
