/-
  What the reference's Of returns: the date of the time. Conditions: the time is an int64.
-/
import Derived.Test.YtiegibgllnojcaaDoorDRefM
import Derived.Deep.DeepCutAuto
import Derived.Deep.CutRange
namespace Go.Proofs.YtiegibgllnojcaaDoor
open Go.RowKit

/-- What the time is brought near by: whole cycles. -/
theorem cycle_parts (t : Int) (h1 : -9223372036854775808 ≤ t) (h2 : t ≤ 9223372036854775807) : ∃ q r, Int.tdiv t 12622780800 = q ∧ -730692561 ≤ q ∧ q ≤ 730692561 ∧ t - q * 12622780800 = r ∧ -12622780800 < r ∧ r < 12622780800 ∧
    (r < 0 → q - 1 = t / 12622780800 ∧ r + 12622780800 = t % 12622780800) ∧ (0 ≤ r → q = t / 12622780800 ∧ r = t % 12622780800) := by
  obtain ⟨q, r, e1, e2, r1, r2, _, _, c, d⟩ := quo_rem t 12622780800 (by omega)
  have e := Int.mul_tdiv_add_tmod t 12622780800
  rw [e1, e2] at e
  by_cases h : 0 ≤ t
  · have := Int.tmod_nonneg 12622780800 h
    rw [e2] at this
    refine ⟨q, r, e1, ?_, ?_, by omega, r1, r2, c, d⟩ <;> omega
  · have := Int.tmod_nonneg (a := -t) 12622780800 (by omega)
    rw [Int.neg_tmod, e2] at this
    refine ⟨q, r, e1, ?_, ?_, by omega, r1, r2, c, d⟩ <;> omega
/-- What is left is brought to days and seconds. -/
def Near (s : Int) (day rest : Value) : Prop := ∃ D R : Int, day = .int .i64 D ∧ rest = .int .i64 R ∧ 0 ≤ R ∧ D * 86400 + R = s ∧ (D = 0 ∨ D = -1)

def YearDown (w : World) (N wd : Int) (v : Value) (wx : World) : Prop := ∃ y n : Int, v = .int .i64 n ∧ Lies w wx y 1 1 wd 0 ∧ toYear y + n = N ∧ 1969 ≤ y ∧ y ≤ 1970 ∧ (n < 0 → y = 1970 ∧ -1 ≤ n)
def YearUp (w : World) (N wd : Int) (v : Value) (wx : World) : Prop := ∃ y n : Int, v = .int .i64 n ∧ Lies w wx y 1 1 wd 0 ∧ toYear y + n = N ∧ 1969 ≤ y ∧ y ≤ 2371 ∧ 0 ≤ n ∧ n ≤ 146462
def MonthUp (w : World) (y n wd : Int) (v : Value) (wx : World) : Prop := ∃ m : Int, v = .int .i64 (n - toMonth y m) ∧ Lies w wx y m 1 wd (n + 1) ∧ 1 ≤ m ∧ m ≤ 12 ∧ toMonth y m ≤ n

set_option maxHeartbeats 4000000 in
set_option maxRecDepth 100000 in
theorem refOf_any (t o : Int) (w : World) (h1 : -9223372036854775808 ≤ t) (h2 : t ≤ 9223372036854775807) :
    Calls Tryd.prog 34 #[.int .i64 t, .int .i64 o] w fun e w' => e = .returned (dateV (t + offB o)) ∧ Below w.heap.size w w' := by
  obtain ⟨q, r, e1, q1, q2, e2, r1, r2, hc, hd⟩ := cycle_parts t h1 h2
  have HC := Lib.hid hc
  have HD := Lib.hid hd
  have HE := Lib.hid e2
  clear hc hd
  go_enter Tryd.func34, Tryd.ntmps34
  go_upto_if 16 with fail
  clear e1 e2
  go_cut [5, 6] from 17 to 20 (fun a5 a6 wx => ∃ c r0 : Int, a5 = .int .i64 c ∧ a6 = .int .i64 r0 ∧ Hid (c = t / 12622780800 ∧ r0 = t % 12622780800) ∧ -730692562 ≤ c ∧ c ≤ 730692562 ∧ 0 ≤ r0 ∧ r0 < 12622780800 ∧ w.alloc (.cells #[.int .i64 0, .int .i64 0, .int .i64 0, .int .i64 0, .int .i64 0, .int .i64 0, .int .i64 0, .int .i64 0] 23) = wx)
  case first =>
    by_cases hr : r < 0
    · go_wp2_with fail
      go_meet
      exact ⟨_, _, rfl, rfl, Lib.hid (HC.out hr), by omega, by omega, by omega, by omega, rfl⟩
    · go_wp2_with fail
      go_meet
      exact ⟨_, _, rfl, rfl, Lib.hid (HD.out (by omega)), by omega, by omega, by omega, by omega, rfl⟩
  case rest =>
    obtain ⟨c, r0, rfl, rfl, HP, c1, c2, a1, a2, rfl⟩ := hcut
    clear HC HD HE q1 q2 r1 r2
    have ob := offB_bd o
    go_upto_region 6 with fail
    go_cut [6] from 21 to 25 (fun a6 wx => ∃ b : Int, a6 = .int .i64 (r0 + b) ∧ Hid (b = offB o) ∧ -86400 ≤ b ∧ b ≤ 86400 ∧ w.alloc (.cells #[.int .i64 0, .int .i64 0, .int .i64 0, .int .i64 0, .int .i64 0, .int .i64 0, .int .i64 0, .int .i64 0] 23) = wx)
    case first =>
      by_cases o1 : o < -86400
      · have HO := Lib.hid (show -86400 = offB o by unfold offB; rw [if_pos o1])
        clear ob
        go_wp2_with fail
        go_meet
        exact ⟨-86400, rfl, HO, by omega, by omega, rfl⟩
      · by_cases o2 : 86400 < o
        · have HO := Lib.hid (show 86400 = offB o by unfold offB; rw [if_neg o1, if_pos o2])
          clear ob
          go_wp2_with fail
          go_meet
          exact ⟨86400, rfl, HO, by omega, by omega, rfl⟩
        · have HO := Lib.hid (show o = offB o by unfold offB; rw [if_neg o1, if_neg o2])
          clear ob
          go_wp2_with fail
          go_meet
          exact ⟨o, rfl, HO, by omega, by omega, rfl⟩
    case rest =>
      obtain ⟨b, rfl, HO, b1, b2, rfl⟩ := hcut
      clear ob
      go_upto_if 27 with fail
      go_cut [6, 7] from 28 to 31 (fun a6 a7 wx => Near (r0 + b) a7 a6 ∧ w.alloc (.cells #[.int .i64 0, .int .i64 0, .int .i64 0, .int .i64 0, .int .i64 0, .int .i64 0, .int .i64 0, .int .i64 0] 23) = wx)
      case first =>
        by_cases hs : r0 + b < 0
        · go_wp2_with fail
          go_meet
          exact ⟨⟨-1, _, rfl, rfl, by omega, by omega, .inr rfl⟩, rfl⟩
        · go_wp2_with fail
          go_meet
          exact ⟨⟨0, _, rfl, rfl, by omega, by omega, .inl rfl⟩, rfl⟩
      case rest =>
        obtain ⟨⟨D, R, rfl, rfl, R1, R2, D1⟩, rfl⟩ := hcut
        have n1 : -1 ≤ D + R / 86400 := by omega
        have n2 : D + R / 86400 ≤ 146097 := by omega
        have HN := Lib.hid (show (D + R / 86400) + 146097 * c = (t + b) / 86400 ∧ R % 86400 = (t + b) % 86400 by have := HP.out; omega)
        go_upto_region 13 with fail
        generalize D + R / 86400 = N at *
        have s0 : 0 ≤ R % 86400 := by omega
        have s1 : R % 86400 < 86400 := by omega
        generalize R % 86400 = S at *
        clear R1 R2 D1
        go_cut [8] from 38 to 42 (fun a8 wx => ∃ wd : Int, a8 = .pointer (some ⟨w.heap.size + 1, 0, none⟩) ∧ Hid (wd = weekday N) ∧ frameW w wd = wx)
        case first =>
          by_cases hN : N < 0
          · obtain rfl : N = -1 := by omega
            go_wp2_with fail
            go_meet
            exact ⟨3, rfl, Lib.hid (by decide), rfl⟩
          · go_wp2_with fail
            go_meet
            exact ⟨_, rfl, Lib.hid (by unfold weekday; omega), rfl⟩
        case rest =>
          obtain ⟨wd, rfl, HWD, hwx⟩ := hcut
          have L := Lies.start w wd
          rw [hwx] at L
          clear hwx
          have HL := Lib.hid L
          clear L
          have y70 := toYear_1970
          have y69 : toYear 1969 = -365 := by decide
          have HY70 := Lib.hid y70
          have HY69 := Lib.hid y69
          clear y70 y69
          go_wp2_with fail
          go_loopw [7] (YearDown w N wd) (fun v _ => (- intOf v).toNat)
          case atStart => exact ⟨1970, N, rfl, HL.out, by rw [HY70.out]; omega, by omega, by omega, fun h => ⟨rfl, by omega⟩⟩
          case round =>
            obtain ⟨y, n, rfl, L, hy, y1, y2, hn⟩ := hrel
            have HL2 := Lib.hid L
            have HY := Lib.hid hy
            by_cases hlt : n < 0
            · obtain ⟨hy70, hn1⟩ := hn hlt
              subst hy70
              have k0 := L.c0
              have kf := L.fr 0
              have hk := L.size
              clear L hy hn
              have HYL := Lib.hid (show yearLen 1969 = 365 by decide)
              go_wp2_with fail
              refine (refYear_any _ _).mono ?_
              rintro e w2 ⟨rfl, rfl⟩
              rw [HYL.out]
              go_wp2_with fail
              go_roundw
              case rel => exact ⟨1969, _, rfl, HL2.out.setY 1969, by have := HY.out; rw [HY70.out] at this; rw [HY69.out]; omega, by omega, by omega, fun h => by omega⟩
              case measure => simp [intOf]; omega
            · clear L hy hn
              have n0 : 0 ≤ n := by omega
              go_wp2_with fail
              go_loopw [7] (YearUp w N wd) (fun v _ => (intOf v).toNat)
              case atStart => exact ⟨y, n, rfl, HL2.out, HY.out, by omega, by omega, by omega, by have := toYear_mono y1; rw [HY69.out] at this; have := HY.out; omega⟩
              case round =>
                obtain ⟨z, k, rfl, L, hz, z1, z2, k0, k1⟩ := hrel
                have HL3 := Lib.hid L
                have HZ := Lib.hid hz
                have HZN := Lib.hid (toYear_next z)
                have lb := yearLen_bd z
                have p0 := L.c0
                have pf := L.fr 0
                have pf7 := L.fr 7
                have p7 := L.c7
                have hk := L.size
                clear L hz
                generalize hYL : yearLen z = YL at *
                have HYL := Lib.hid hYL
                clear hYL
                by_cases hgo : YL ≤ k
                · go_wp2_with (go_at_call 46; refine (refYear_any _ _).mono ?_; rintro e w2 ⟨rfl, rfl⟩; rw [HYL.out])
                  go_roundw
                  case rel =>
                    have hn2 : toYear (z + 1) + (k - YL) = N := by have := HZ.out; have := HZN.out; omega
                    exact ⟨z + 1, _, rfl, HL3.out.setY (z + 1), hn2, by omega, yearNear (N := N) (by omega) (by omega) (by omega), by omega, by omega⟩
                  case measure => simp [intOf]; omega
                · go_wp2_with (go_at_call 46; refine (refYear_any _ _).mono ?_; rintro e w2 ⟨rfl, rfl⟩; rw [HYL.out])
                  have HL4 := Lib.hid (HL3.out.setYd (k + 1))
                  generalize wr.setCell ⟨w.heap.size + 1, 7, none⟩ (.int .i64 (k + 1)) = wz at *
                  clear p0 pf pf7 p7 hk
                  have HYK := Lib.hid (show k < yearLen z by rw [HYL.out]; omega)
                  clear HL3 HL2
                  go_loopw [7] (MonthUp w z k wd) (fun v _ => (intOf v).toNat)
                  case atStart => exact ⟨1, by rw [toMonth_1]; simp, HL4.out, by omega, by omega, by rw [toMonth_1]; omega⟩
                  case round =>
                    obtain ⟨m, rfl, L, m1, m2, hm⟩ := hrel
                    have HL5 := Lib.hid L
                    have p0 := L.c0
                    have p1 := L.c1
                    have pf := L.fr 1
                    have hk := L.size
                    have HMN := Lib.hid (toMonth_next z m1 m2)
                    have mb := monthLen_bd z m1 m2
                    have tb := toMonth_bd z m1 (by omega)
                    have HM := Lib.hid hm
                    have kk : k ≤ 365 := by have := HYK.out; have := (yearLen_bd z).2; omega
                    clear L hm
                    generalize hT : toMonth z m = T at *
                    have HT := Lib.hid hT
                    clear hT
                    generalize hML : monthLen z m = ML at *
                    have HML := Lib.hid hML
                    clear hML
                    go_wp2_with fail
                    refine (refDays_any _ _ _ (by omega) (by omega)).mono ?_
                    rintro e w2 ⟨rfl, hb⟩
                    rw [HML.out]
                    have L6 := HL5.out.keep hb
                    clear HL5 hb p0 p1 pf hk
                    have HL6 := Lib.hid L6
                    by_cases hgo : ML ≤ k - T
                    · have p0 := L6.c0
                      have p1 := L6.c1
                      have hk := L6.size
                      clear L6
                      go_wp2_with fail
                      refine (refDays_any _ _ _ (by omega) (by omega)).mono ?_
                      rintro e w3 ⟨rfl, hb⟩
                      rw [HML.out]
                      have L7 := HL6.out.keep hb
                      clear HL6 hb p0 p1 hk
                      have HL7 := Lib.hid L7
                      have p1 := L7.c1
                      have pf := L7.fr 1
                      have hk := L7.size
                      clear L7
                      go_wp2_with fail
                      go_roundw
                      case rel =>
                        have e13 := toMonth_13 z
                        have m3 : m + 1 ≤ 12 := by
                          apply Classical.byContradiction
                          intro hx
                          obtain rfl : m = 12 := by omega
                          have a1 := HMN.out
                          rw [show (12 : Int) + 1 = 13 by decide, e13] at a1
                          have := HYK.out
                          omega
                        exact ⟨m + 1, by rw [HMN.out]; congr 1; omega, HL7.out.setM (m + 1), by omega, m3, by rw [HMN.out]; omega⟩
                      case measure => simp [intOf]; omega
                    · have HV := Lib.hid (ref_date (m := m) (S := S) (t := t) (b := b) HZ.out k0 HYK.out m1 m2 (by rw [HT.out]; exact HM.out) (by rw [HMN.out]; omega) HWD.out HN.out.1 HN.out.2)
                      have p0 := L6.c0
                      have p1 := L6.c1
                      have p2 := L6.c2
                      have p3 := L6.c3
                      have p4 := L6.c4
                      have p5 := L6.c5
                      have p6 := L6.c6
                      have p7 := L6.c7
                      have f0 := L6.fr 0
                      have f2 := L6.fr 2
                      have f3 := L6.fr 3
                      have f4 := L6.fr 4
                      have f5 := L6.fr 5
                      have g0 := L6.z0
                      have g1 := L6.z1
                      have g2 := L6.z2
                      have g3 := L6.z3
                      have g4 := L6.z4
                      have g5 := L6.z5
                      have g6 := L6.z6
                      have g7 := L6.z7
                      have gf := L6.fz
                      have hk := L6.size
                      clear L6
                      go_wp2_with fail
                      have HBB := Lib.hid HL6.out.below
                      refine bodyPost_ret (v := dv (z + 400 * c) m (k - T + 1) (S / 3600) (S / 60 % 60) (S % 60) wd (k + 1)) (by simp [results, Tryd.results34, go_sem, dv, g0, g1, g2, g3, g4, g5, g6, g7]) rfl ⟨by rw [← HO.out, HV.out, HT.out], ?_⟩
                      repeat (first | (with_reducible apply Below.setCell (hp := ?_)) | (with_reducible apply Below.alloc (hB := ?_)) | (with_reducible apply below_draw))
                      all_goals (first | (with_reducible exact HBB.out) | (simp; omega) | simp)
end Go.Proofs.YtiegibgllnojcaaDoor
