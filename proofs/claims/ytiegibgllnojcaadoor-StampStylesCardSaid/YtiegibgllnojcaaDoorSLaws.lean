/-
  The laws StampFormats and StampJoins, walked: they return true. Conditions: the times and offsets are int64s; the library's tables and the package's lie as their text lays them.
-/
import Derived.Test.YtiegibgllnojcaaDoorSStyleW
set_option linter.unusedVariables false
namespace Go.Proofs.YtiegibgllnojcaaDoor
open Go.RowKit

theorem first_day : fmtT 0 0 [37, 70] = [49, 57, 55, 48, 45, 48, 49, 45, 48, 49] := by decide +kernel
set_option maxHeartbeats 1000000 in
theorem awake_any (w : World) (hT : STab w) : Calls Tryd.prog 9 #[] w fun e w' => e = .returned (.bool true) ∧ Below w.heap.size w w' := by
  have c := fmt_from #[37, 70] (by decide) w hT (t := 0) (o := 0) (by omega) (by omega) (by omega) (by omega) first_day
  have cR := fun w => recent_any 0 5 w (by omega) (by omega) (by omega) (by omega)
  rw [show recentB 0 5 = true by decide] at cR
  rw [show txt [49, 57, 55, 48, 45, 48, 49, 45, 48, 49] = ⟨#[49, 57, 55, 48, 45, 48, 49, 45, 48, 49]⟩ from rfl] at c
  have hq : ((⟨#[49, 57, 55, 48, 45, 48, 49, 45, 48, 49]⟩ : ByteArray).toList == (⟨#[49, 57, 55, 48, 45, 48, 49, 45, 48, 49]⟩ : ByteArray).toList) = true := beq_self_eq_true _
  go_enter Tryd.func9, Tryd.ntmps9
  go_wp2_with fail
  refine c.mono ?_
  rintro e w2 ⟨rfl, hb⟩
  go_wp2_with fail
  refine (cR w2).mono ?_
  rintro e w3 ⟨rfl, rfl⟩
  go_wp2_with fail
  go_ret
  exact ⟨rfl, hb⟩

set_option maxHeartbeats 1000000 in
theorem formats_walk (f : ByteArray) (t o : Int) (w : World) (hz : f.size ≤ 9223372036854775807) (t0 : -9223372036854775808 ≤ t) (t1 : t ≤ 9223372036854775807) (o0 : -9223372036854775808 ≤ o) (o1 : o ≤ 9223372036854775807) (hT : STab w) :
    Calls Tryd.prog 4 #[.string f, .int .i64 t, .int .i64 o] w fun e w' => e = .returned (.bool true) ∧ Below w.heap.size w w' := by
  have HT := Lib.hid hT
  clear hT
  by_cases hl : 100 < f.size
  · go_enter Tryd.func4, Tryd.ntmps4
    go_wp2_with fail
    refine (awake_any _ HT.out).mono ?_
    rintro e w1 ⟨rfl, hb⟩
    have HB := Lib.hid hb
    clear hb
    go_wp2_with fail
    refine (awake_any _ (HT.out.keep HB.out)).mono ?_
    rintro e w2 ⟨rfl, hb⟩
    have HB2 := Lib.hid (below_two HB.out hb)
    clear hb
    go_wp2_with fail
    go_ret
    exact ⟨rfl, HB2.out⟩
  · have cP := fun (wx : World) (hx : STab wx) => format_any f t o wx hx (by omega) t0 t1 o0 o1
    have cR := fun (wx : World) => refFormat_any f t o wx (by omega) t0 t1 o0 o1
    generalize txt (fmtT t o f.data.toList) = S at *
    have HP := Lib.hid cP
    have HR := Lib.hid cR
    clear cP cR
    go_enter Tryd.func4, Tryd.ntmps4
    go_wp2_with fail
    refine (awake_any _ HT.out).mono ?_
    rintro e w1 ⟨rfl, hb⟩
    have HB := Lib.hid hb
    clear hb
    go_wp2_with fail
    refine (HP.out _ (HT.out.keep HB.out)).mono ?_
    rintro e w2 ⟨rfl, hb⟩
    have HB2 := Lib.hid (below_two HB.out hb)
    clear hb
    go_wp2_with fail
    refine (HR.out _).mono ?_
    rintro e w3 ⟨rfl, hb⟩
    have HB3 := Lib.hid (below_two HB2.out hb)
    clear hb
    have hq : (S.toList == S.toList) = true := beq_self_eq_true _
    go_wp2_with fail
    go_ret
    exact ⟨rfl, HB3.out⟩

theorem last_of (f : ByteArray) (h : 0 < f.size) : f.data.toList.getLast? = some (f[f.size - 1]'(by omega)) := by
  rw [List.getLast?_eq_getElem?]
  have e : f.data.toList.length = f.size := by simp
  rw [e, List.getElem?_eq_getElem (by rw [e]; omega)]
  rfl

theorem joins_of (f g : ByteArray) (t : Int) (t0 : -9223372036854775808 ≤ t) (t1 : t ≤ 9223372036854775807) (hz : f.size ≤ 60) (hz2 : g.size ≤ 60) (hl : f.data.toList.getLast? ≠ some 37) : ∃ A B S : ByteArray,
    Hid (∀ w, STab w → Calls Tryd.prog 10 #[.string (f ++ g), .int .i64 t, .int .i64 0] w fun e w' => e = .returned (.string S) ∧ Below w.heap.size w w') ∧
    Hid (∀ w, STab w → Calls Tryd.prog 10 #[.string f, .int .i64 t, .int .i64 0] w fun e w' => e = .returned (.string A) ∧ Below w.heap.size w w') ∧
    Hid (∀ w, STab w → Calls Tryd.prog 10 #[.string g, .int .i64 t, .int .i64 0] w fun e w' => e = .returned (.string B) ∧ Below w.heap.size w w') ∧
    (∀ w : World, (Op.stringOp .add f g).run Tryd.prog w = .ok (.string (f ++ g)) w) ∧ (∀ w : World, (Op.stringOp .add A B).run Tryd.prog w = .ok (.string S) w) := by
  have l1 := fmtT_len t 0 t0 t1 (by omega) (by omega) f.data.toList
  have l2 := fmtT_len t 0 t0 t1 (by omega) (by omega) g.data.toList
  have z1 : f.data.toList.length = f.size := by simp
  have z2 : g.data.toList.length = g.size := by simp
  have e : (f ++ g).data.toList = f.data.toList ++ g.data.toList := by rw [ByteArray.data_append, Array.toList_append]
  refine ⟨txt (fmtT t 0 f.data.toList), txt (fmtT t 0 g.data.toList), txt (fmtT t 0 (f ++ g).data.toList), Lib.hid ?_, Lib.hid ?_, Lib.hid ?_, fun w => run_string_add_sum w _ _ (by omega), fun w => ?_⟩
  · exact fun w hw => format_any (f ++ g) t 0 w hw (by rw [ByteArray.size_append]; omega) t0 t1 (by omega) (by omega)
  · exact fun w hw => format_any f t 0 w hw (by omega) t0 t1 (by omega) (by omega)
  · exact fun w hw => format_any g t 0 w hw (by omega) t0 t1 (by omega) (by omega)
  · rw [join_run _ _ _ (by omega) (by omega), e, fmtT_append t 0 _ _ hl]

set_option maxHeartbeats 2000000 in
theorem joins_walk (f g : ByteArray) (t : Int) (w : World) (hz : f.size ≤ 9223372036854775807) (hz2 : g.size ≤ 9223372036854775807) (t0 : -9223372036854775808 ≤ t) (t1 : t ≤ 9223372036854775807) (hT : STab w) :
    Calls Tryd.prog 6 #[.string f, .string g, .int .i64 t] w fun e w' => e = .returned (.bool true) ∧ Below w.heap.size w w' := by
  have HT := Lib.hid hT
  clear hT
  have early : ∀ w1 : World, Below w.heap.size w w1 → Calls Tryd.prog 9 #[] w1 fun e w' => e = .returned (.bool true) ∧ Below w.heap.size w w' := fun w1 hb => (awake_any _ (HT.out.keep hb)).mono fun e w' ⟨he, h⟩ => ⟨he, below_two hb h⟩
  have HA := Lib.hid early
  clear early
  by_cases hl : 60 < f.size
  · go_enter Tryd.func6, Tryd.ntmps6
    go_wp2_with fail
    refine (HA.out _ (Below.refl _ _)).mono ?_
    rintro e w1 ⟨rfl, hb⟩
    have HB := Lib.hid hb
    clear hb
    go_wp2_with fail
    refine (HA.out _ HB.out).mono ?_
    rintro e w2 ⟨rfl, hb⟩
    have HB2 := Lib.hid hb
    clear hb
    go_wp2_with fail
    go_ret
    exact ⟨rfl, HB2.out⟩
  · by_cases hl2 : 60 < g.size
    · go_enter Tryd.func6, Tryd.ntmps6
      go_wp2_with fail
      refine (HA.out _ (Below.refl _ _)).mono ?_
      rintro e w1 ⟨rfl, hb⟩
      have HB := Lib.hid hb
      clear hb
      go_wp2_with fail
      refine (HA.out _ HB.out).mono ?_
      rintro e w2 ⟨rfl, hb⟩
      have HB2 := Lib.hid hb
      clear hb
      go_wp2_with fail
      go_ret
      exact ⟨rfl, HB2.out⟩
    · by_cases h0 : 0 < f.size
      · obtain ⟨c, hc⟩ : ∃ c, f[f.size - 1]'(by omega) = c := ⟨_, rfl⟩
        have hlast := last_of f h0
        rw [hc] at hlast
        by_cases h37 : c.toNat = 37
        · clear hlast
          have i0 : (0 : Int) ≤ (f.size : Int) - 1 := by omega
          have i1 : (f.size : Int) - 1 < (f.size : Int) := by omega
          go_enter Tryd.func6, Tryd.ntmps6
          go_wp2_with fail
          refine (HA.out _ (Below.refl _ _)).mono ?_
          rintro e w1 ⟨rfl, hb⟩
          have HB := Lib.hid hb
          clear hb
          go_wp2_with fail
          refine (HA.out _ HB.out).mono ?_
          rintro e w2 ⟨rfl, hb⟩
          have HB2 := Lib.hid hb
          clear hb
          go_wp2_with fail
          go_ret
          exact ⟨rfl, HB2.out⟩
        · obtain ⟨A, B, S, J1, J2, J3, k1, k2⟩ := joins_of f g t t0 t1 (by omega) (by omega) (by rw [hlast]; intro e; exact h37 (by rw [Option.some.inj e]; rfl))
          have i0 : (0 : Int) ≤ (f.size : Int) - 1 := by omega
          have i1 : (f.size : Int) - 1 < (f.size : Int) := by omega
          have hn : ((c.toNat : Int) == 37) = false := beq_eq_false_iff_ne.2 (by omega)
          have hq : (S.toList == S.toList) = true := beq_self_eq_true _
          clear hlast h37
          go_enter Tryd.func6, Tryd.ntmps6
          go_wp2_with fail
          refine (HA.out _ (Below.refl _ _)).mono ?_
          rintro e w1 ⟨rfl, hb⟩
          have HB := Lib.hid hb
          clear hb
          go_wp2_with fail
          refine (J1.out _ (HT.out.keep HB.out)).mono ?_
          rintro e w2 ⟨rfl, hb⟩
          have HB2 := Lib.hid (below_two HB.out hb)
          clear hb
          go_wp2_with fail
          refine (J2.out _ (HT.out.keep HB2.out)).mono ?_
          rintro e w3 ⟨rfl, hb⟩
          have HB3 := Lib.hid (below_two HB2.out hb)
          clear hb
          go_wp2_with fail
          refine (J3.out _ (HT.out.keep HB3.out)).mono ?_
          rintro e w4 ⟨rfl, hb⟩
          have HB4 := Lib.hid (below_two HB3.out hb)
          clear hb
          go_wp2_with fail
          go_ret
          exact ⟨rfl, HB4.out⟩
      · obtain ⟨A, B, S, J1, J2, J3, k1, k2⟩ := joins_of f g t t0 t1 (by omega) (by omega) (by rw [show f.data.toList = [] from List.eq_nil_of_length_eq_zero (by simpa using h0)]; simp)
        have hq : (S.toList == S.toList) = true := beq_self_eq_true _
        have h0' : decide (0 < (f.size : Int)) = false := by simpa using h0
        go_enter Tryd.func6, Tryd.ntmps6
        go_wp2_with fail
        refine (HA.out _ (Below.refl _ _)).mono ?_
        rintro e w1 ⟨rfl, hb⟩
        have HB := Lib.hid hb
        clear hb
        go_wp2_with fail
        refine (J1.out _ (HT.out.keep HB.out)).mono ?_
        rintro e w2 ⟨rfl, hb⟩
        have HB2 := Lib.hid (below_two HB.out hb)
        clear hb
        go_wp2_with fail
        refine (J2.out _ (HT.out.keep HB2.out)).mono ?_
        rintro e w3 ⟨rfl, hb⟩
        have HB3 := Lib.hid (below_two HB2.out hb)
        clear hb
        go_wp2_with fail
        refine (J3.out _ (HT.out.keep HB3.out)).mono ?_
        rintro e w4 ⟨rfl, hb⟩
        have HB4 := Lib.hid (below_two HB3.out hb)
        clear hb
        go_wp2_with fail
        go_ret
        exact ⟨rfl, HB4.out⟩
end Go.Proofs.YtiegibgllnojcaaDoor
