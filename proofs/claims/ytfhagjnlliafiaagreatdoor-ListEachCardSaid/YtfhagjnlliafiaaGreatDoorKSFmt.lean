/-
  What stamp's told writes of each directive but F and T.
  Conditions: each fact's own.
-/
import Derived.Test.YtfhagjnlliafiaaGreatDoorKSToldF
import Derived.Deep.RegionHeld3
import Derived.IntWalk
set_option linter.unusedVariables false
set_option maxHeartbeats 4000000
set_option maxRecDepth 100000
namespace Go.Proofs.YtfhagjnlliafiaaGreatDoor.S
open Go.Proofs.YtfhagjnlliafiaaGreatDoor.D Go.Proofs.YtfhagjnlliafiaaGreatDoor.N
open Go.RowKit
theorem told_Y (t o y m d h i s wd yd : Int) (B : TellBd t o y m d h i s wd yd) (dir : ByteArray) (hz : 1 < dir.size) (w : World) (hT : STab w) (hc : (dir[1]'hz).toNat = 89) :
    Calls Tryz.prog 135 #[.agg #[.int .i64 t, .int .i64 o, .int .i64 y, .int .i64 m, .int .i64 d, .int .i64 h, .int .i64 i, .int .i64 s, .int .i64 wd, .int .i64 yd], .string dir] w fun e w' => e = .returned (.string (txt (Lib.itoa y))) ∧ Below w.heap.size w w' := by
  have HT := Lib.hid hT
  have HK := Lib.hid (InTold.start w t o y m d h i s wd yd)
  have BB := Lib.hid B
  clear hT B
  go_enter Tryz.func135, Tryz.ntmps135
  go_wp2_with fail
  refine (dec_from HK.out y BB.out.y0 BB.out.y1 HT.out).mono ?_
  rintro e w2 ⟨rfl, hk⟩
  have HK2 := Lib.hid hk
  clear hk HK
  go_wp2_with fail
  go_ret
  exact ⟨rfl, HK2.out.below⟩
theorem told_s (t o y m d h i s wd yd : Int) (B : TellBd t o y m d h i s wd yd) (dir : ByteArray) (hz : 1 < dir.size) (w : World) (hT : STab w) (hc : (dir[1]'hz).toNat = 115) :
    Calls Tryz.prog 135 #[.agg #[.int .i64 t, .int .i64 o, .int .i64 y, .int .i64 m, .int .i64 d, .int .i64 h, .int .i64 i, .int .i64 s, .int .i64 wd, .int .i64 yd], .string dir] w fun e w' => e = .returned (.string (txt (Lib.itoa t))) ∧ Below w.heap.size w w' := by
  have HT := Lib.hid hT
  have HK := Lib.hid (InTold.start w t o y m d h i s wd yd)
  have BB := Lib.hid B
  clear hT B
  go_enter Tryz.func135, Tryz.ntmps135
  go_wp2_with fail
  refine (dec_from HK.out t BB.out.t0 BB.out.t1 HT.out).mono ?_
  rintro e w2 ⟨rfl, hk⟩
  have HK2 := Lib.hid hk
  clear hk HK
  go_wp2_with fail
  go_ret
  exact ⟨rfl, HK2.out.below⟩
theorem told_m (t o y m d h i s wd yd : Int) (B : TellBd t o y m d h i s wd yd) (dir : ByteArray) (hz : 1 < dir.size) (w : World) (hT : STab w) (hc : (dir[1]'hz).toNat = 109) :
    Calls Tryz.prog 135 #[.agg #[.int .i64 t, .int .i64 o, .int .i64 y, .int .i64 m, .int .i64 d, .int .i64 h, .int .i64 i, .int .i64 s, .int .i64 wd, .int .i64 yd], .string dir] w fun e w' => e = .returned (.string (txt (twoL m.toNat))) ∧ Below w.heap.size w w' := by
  have HT := Lib.hid hT
  have HK := Lib.hid (InTold.start w t o y m d h i s wd yd)
  have BB := Lib.hid B
  clear hT B
  go_enter Tryz.func135, Tryz.ntmps135
  go_wp2_with fail
  refine (two_from HK.out m BB.out.m0 (BB.out.mH) HT.out).mono ?_
  rintro e w2 ⟨rfl, hk⟩
  have HK2 := Lib.hid hk
  clear hk HK
  go_wp2_with fail
  go_ret
  exact ⟨rfl, HK2.out.below⟩
theorem told_d (t o y m d h i s wd yd : Int) (B : TellBd t o y m d h i s wd yd) (dir : ByteArray) (hz : 1 < dir.size) (w : World) (hT : STab w) (hc : (dir[1]'hz).toNat = 100) :
    Calls Tryz.prog 135 #[.agg #[.int .i64 t, .int .i64 o, .int .i64 y, .int .i64 m, .int .i64 d, .int .i64 h, .int .i64 i, .int .i64 s, .int .i64 wd, .int .i64 yd], .string dir] w fun e w' => e = .returned (.string (txt (twoL d.toNat))) ∧ Below w.heap.size w w' := by
  have HT := Lib.hid hT
  have HK := Lib.hid (InTold.start w t o y m d h i s wd yd)
  have BB := Lib.hid B
  clear hT B
  go_enter Tryz.func135, Tryz.ntmps135
  go_wp2_with fail
  refine (two_from HK.out d BB.out.d0 (BB.out.dH) HT.out).mono ?_
  rintro e w2 ⟨rfl, hk⟩
  have HK2 := Lib.hid hk
  clear hk HK
  go_wp2_with fail
  go_ret
  exact ⟨rfl, HK2.out.below⟩
theorem told_H (t o y m d h i s wd yd : Int) (B : TellBd t o y m d h i s wd yd) (dir : ByteArray) (hz : 1 < dir.size) (w : World) (hT : STab w) (hc : (dir[1]'hz).toNat = 72) :
    Calls Tryz.prog 135 #[.agg #[.int .i64 t, .int .i64 o, .int .i64 y, .int .i64 m, .int .i64 d, .int .i64 h, .int .i64 i, .int .i64 s, .int .i64 wd, .int .i64 yd], .string dir] w fun e w' => e = .returned (.string (txt (twoL h.toNat))) ∧ Below w.heap.size w w' := by
  have HT := Lib.hid hT
  have HK := Lib.hid (InTold.start w t o y m d h i s wd yd)
  have BB := Lib.hid B
  clear hT B
  go_enter Tryz.func135, Tryz.ntmps135
  go_wp2_with fail
  refine (two_from HK.out h BB.out.h0 (BB.out.hH) HT.out).mono ?_
  rintro e w2 ⟨rfl, hk⟩
  have HK2 := Lib.hid hk
  clear hk HK
  go_wp2_with fail
  go_ret
  exact ⟨rfl, HK2.out.below⟩
theorem told_M (t o y m d h i s wd yd : Int) (B : TellBd t o y m d h i s wd yd) (dir : ByteArray) (hz : 1 < dir.size) (w : World) (hT : STab w) (hc : (dir[1]'hz).toNat = 77) :
    Calls Tryz.prog 135 #[.agg #[.int .i64 t, .int .i64 o, .int .i64 y, .int .i64 m, .int .i64 d, .int .i64 h, .int .i64 i, .int .i64 s, .int .i64 wd, .int .i64 yd], .string dir] w fun e w' => e = .returned (.string (txt (twoL i.toNat))) ∧ Below w.heap.size w w' := by
  have HT := Lib.hid hT
  have HK := Lib.hid (InTold.start w t o y m d h i s wd yd)
  have BB := Lib.hid B
  clear hT B
  go_enter Tryz.func135, Tryz.ntmps135
  go_wp2_with fail
  refine (two_from HK.out i BB.out.i0 (BB.out.iH) HT.out).mono ?_
  rintro e w2 ⟨rfl, hk⟩
  have HK2 := Lib.hid hk
  clear hk HK
  go_wp2_with fail
  go_ret
  exact ⟨rfl, HK2.out.below⟩
theorem told_S (t o y m d h i s wd yd : Int) (B : TellBd t o y m d h i s wd yd) (dir : ByteArray) (hz : 1 < dir.size) (w : World) (hT : STab w) (hc : (dir[1]'hz).toNat = 83) :
    Calls Tryz.prog 135 #[.agg #[.int .i64 t, .int .i64 o, .int .i64 y, .int .i64 m, .int .i64 d, .int .i64 h, .int .i64 i, .int .i64 s, .int .i64 wd, .int .i64 yd], .string dir] w fun e w' => e = .returned (.string (txt (twoL s.toNat))) ∧ Below w.heap.size w w' := by
  have HT := Lib.hid hT
  have HK := Lib.hid (InTold.start w t o y m d h i s wd yd)
  have BB := Lib.hid B
  clear hT B
  go_enter Tryz.func135, Tryz.ntmps135
  go_wp2_with fail
  refine (two_from HK.out s BB.out.s0 (BB.out.sH) HT.out).mono ?_
  rintro e w2 ⟨rfl, hk⟩
  have HK2 := Lib.hid hk
  clear hk HK
  go_wp2_with fail
  go_ret
  exact ⟨rfl, HK2.out.below⟩
theorem told_j (t o y m d h i s wd yd : Int) (B : TellBd t o y m d h i s wd yd) (dir : ByteArray) (hz : 1 < dir.size) (w : World) (hT : STab w) (hc : (dir[1]'hz).toNat = 106) :
    Calls Tryz.prog 135 #[.agg #[.int .i64 t, .int .i64 o, .int .i64 y, .int .i64 m, .int .i64 d, .int .i64 h, .int .i64 i, .int .i64 s, .int .i64 wd, .int .i64 yd], .string dir] w fun e w' => e = .returned (.string (txt (threeL yd.toNat))) ∧ Below w.heap.size w w' := by
  have HT := Lib.hid hT
  have HK := Lib.hid (InTold.start w t o y m d h i s wd yd)
  have BB := Lib.hid B
  clear hT B
  go_enter Tryz.func135, Tryz.ntmps135
  go_wp2_with fail
  refine (three_from HK.out yd BB.out.yd0 BB.out.yd1 HT.out).mono ?_
  rintro e w2 ⟨rfl, hk⟩
  have HK2 := Lib.hid hk
  clear hk HK
  go_wp2_with fail
  go_ret
  exact ⟨rfl, HK2.out.below⟩
theorem told_z (t o y m d h i s wd yd : Int) (B : TellBd t o y m d h i s wd yd) (dir : ByteArray) (hz : 1 < dir.size) (w : World) (hT : STab w) (hc : (dir[1]'hz).toNat = 122) :
    Calls Tryz.prog 135 #[.agg #[.int .i64 t, .int .i64 o, .int .i64 y, .int .i64 m, .int .i64 d, .int .i64 h, .int .i64 i, .int .i64 s, .int .i64 wd, .int .i64 yd], .string dir] w fun e w' => e = .returned (.string (txt (zoneL o))) ∧ Below w.heap.size w w' := by
  have HT := Lib.hid hT
  have HK := Lib.hid (InTold.start w t o y m d h i s wd yd)
  have BB := Lib.hid B
  clear hT B
  go_enter Tryz.func135, Tryz.ntmps135
  go_wp2_with fail
  refine (zone_from HK.out BB.out.o0 BB.out.o1 HT.out).mono ?_
  rintro e w2 ⟨rfl, hk⟩
  have HK2 := Lib.hid hk
  clear hk HK
  go_wp2_with fail
  go_ret
  exact ⟨rfl, HK2.out.below⟩
theorem told_e (t o y m d h i s wd yd : Int) (B : TellBd t o y m d h i s wd yd) (dir : ByteArray) (hz : 1 < dir.size) (w : World) (hT : STab w) (hc : (dir[1]'hz).toNat = 101) :
    Calls Tryz.prog 135 #[.agg #[.int .i64 t, .int .i64 o, .int .i64 y, .int .i64 m, .int .i64 d, .int .i64 h, .int .i64 i, .int .i64 s, .int .i64 wd, .int .i64 yd], .string dir] w fun e w' => e = .returned (.string (txt (dayL d))) ∧ Below w.heap.size w w' := by
  have HT := Lib.hid hT
  have HK := Lib.hid (InTold.start w t o y m d h i s wd yd)
  have BB := Lib.hid B
  clear hT B
  have HD := Lib.hid (day_of d BB.out.d0 BB.out.dH)
  obtain ⟨l1, l2⟩ := itoa_two_len d BB.out.d0 (by have := BB.out.dH; omega)
  have cD := dec_from HK.out d (by have := BB.out.d0; omega) (by have := BB.out.dH; omega) HT.out
  generalize Lib.itoa d = l at *
  have hz2 := txt_size l
  go_enter Tryz.func135, Tryz.ntmps135
  go_wp2_with fail
  refine (cD).mono ?_
  rintro e w2 ⟨rfl, hk⟩
  have HK2 := Lib.hid hk
  clear hk HK
  go_wp2_with fail
  refine (right_any (txt l) (l.length : Int) 2 w2 (by omega)).mono ?_
  rintro e w3 ⟨rfl, hb⟩
  have HK3 := Lib.hid (HK2.out.keep hb)
  clear hb HK2
  go_wp2_with fail
  go_ret
  exact ⟨ret_str (blank_day HD.out l1 l2), HK3.out.below⟩
theorem told_b (t o y m d h i s wd yd : Int) (B : TellBd t o y m d h i s wd yd) (dir : ByteArray) (hz : 1 < dir.size) (w : World) (hT : STab w) (hc : (dir[1]'hz).toNat = 98) :
    Calls Tryz.prog 135 #[.agg #[.int .i64 t, .int .i64 o, .int .i64 y, .int .i64 m, .int .i64 d, .int .i64 h, .int .i64 i, .int .i64 s, .int .i64 wd, .int .i64 yd], .string dir] w fun e w' => e = .returned (.string (txt (monName (m.toNat - 1)))) ∧ Below w.heap.size w w' := by
  have HT := Lib.hid hT
  have HK := Lib.hid (InTold.start w t o y m d h i s wd yd)
  have BB := Lib.hid B
  clear hT B
  have hcell := HT.out.mon (m.toNat - 1) (by have := BB.out.m12; omega)
  have m0 := BB.out.m0
  have m12 := BB.out.m12
  have m1 := BB.out.m1
  have i0 : 0 ≤ m - 1 := by omega
  have i1 : m - 1 < 12 := by omega
  have hlt := HT.out.lt
  go_enter Tryz.func135, Tryz.ntmps135
  go_wp2_with fail
  go_ret
  exact ⟨rfl, HK.out.below⟩
theorem told_a (t o y m d h i s wd yd : Int) (B : TellBd t o y m d h i s wd yd) (dir : ByteArray) (hz : 1 < dir.size) (w : World) (hT : STab w) (hc : (dir[1]'hz).toNat = 97) :
    Calls Tryz.prog 135 #[.agg #[.int .i64 t, .int .i64 o, .int .i64 y, .int .i64 m, .int .i64 d, .int .i64 h, .int .i64 i, .int .i64 s, .int .i64 wd, .int .i64 yd], .string dir] w fun e w' => e = .returned (.string (txt (dayName wd.toNat))) ∧ Below w.heap.size w w' := by
  have HT := Lib.hid hT
  have HK := Lib.hid (InTold.start w t o y m d h i s wd yd)
  have BB := Lib.hid B
  clear hT B
  have hcell := HT.out.day wd.toNat (by have := BB.out.wd1; omega)
  have m0 := BB.out.wd0
  have m12 := BB.out.wd1
  have hlt := HT.out.lt
  go_enter Tryz.func135, Tryz.ntmps135
  go_wp2_with fail
  go_ret
  exact ⟨rfl, HK.out.below⟩
theorem told_pct (t o y m d h i s wd yd : Int) (B : TellBd t o y m d h i s wd yd) (dir : ByteArray) (hz : 1 < dir.size) (w : World) (hT : STab w) (hc : (dir[1]'hz).toNat = 37) :
    Calls Tryz.prog 135 #[.agg #[.int .i64 t, .int .i64 o, .int .i64 y, .int .i64 m, .int .i64 d, .int .i64 h, .int .i64 i, .int .i64 s, .int .i64 wd, .int .i64 yd], .string dir] w fun e w' => e = .returned (.string ⟨#[37]⟩) ∧ Below w.heap.size w w' := by
  have HT := Lib.hid hT
  have HK := Lib.hid (InTold.start w t o y m d h i s wd yd)
  have BB := Lib.hid B
  clear hT B
  go_enter Tryz.func135, Tryz.ntmps135
  go_wp2_with fail
  go_ret
  exact ⟨rfl, HK.out.below⟩
theorem told_none (t o y m d h i s wd yd : Int) (B : TellBd t o y m d h i s wd yd) (dir : ByteArray) (hz : 1 < dir.size) (w : World) (hT : STab w) (c : Nat) (hc : (dir[1]'hz).toNat = c) (n89 : ((c : Int) == 89) = false) (n109 : ((c : Int) == 109) = false) (n100 : ((c : Int) == 100) = false) (n72 : ((c : Int) == 72) = false) (n77 : ((c : Int) == 77) = false) (n83 : ((c : Int) == 83) = false) (n101 : ((c : Int) == 101) = false) (n106 : ((c : Int) == 106) = false) (n98 : ((c : Int) == 98) = false) (n97 : ((c : Int) == 97) = false) (n115 : ((c : Int) == 115) = false) (n122 : ((c : Int) == 122) = false) (n70 : ((c : Int) == 70) = false) (n84 : ((c : Int) == 84) = false) (n37 : ((c : Int) == 37) = false) :
    Calls Tryz.prog 135 #[.agg #[.int .i64 t, .int .i64 o, .int .i64 y, .int .i64 m, .int .i64 d, .int .i64 h, .int .i64 i, .int .i64 s, .int .i64 wd, .int .i64 yd], .string dir] w fun e w' => e = .returned (.string dir) ∧ Below w.heap.size w w' := by
  have HT := Lib.hid hT
  have HK := Lib.hid (InTold.start w t o y m d h i s wd yd)
  have BB := Lib.hid B
  clear hT B
  go_enter Tryz.func135, Tryz.ntmps135
  go_wp2_with fail
  go_ret
  exact ⟨rfl, HK.out.below⟩
end Go.Proofs.YtfhagjnlliafiaaGreatDoor.S
namespace Go.Proofs.YtfhagjnlliafiaaGreatDoor.S
open Go.Proofs.YtfhagjnlliafiaaGreatDoor.D Go.Proofs.YtfhagjnlliafiaaGreatDoor.N
open Go.RowKit
def oneT (t o : Int) : UInt8 → Option (List UInt8) :=
  oneL t o (yearOf ((t + offB o) / 86400)) (monOf ((t + offB o) / 86400)) (mdayOf ((t + offB o) / 86400)) ((t + offB o) % 86400 / 3600) ((t + offB o) % 86400 / 60 % 60) ((t + offB o) % 86400 % 60) (weekday ((t + offB o) / 86400)) (ydayOf ((t + offB o) / 86400))
theorem date_of (t o : Int) (t0 : -9223372036854775808 ≤ t) (t1 : t ≤ 9223372036854775807) (o0 : -9223372036854775808 ≤ o) (o1 : o ≤ 9223372036854775807) :
    ∃ y m d h i s wd yd, dateV (t + offB o) = dv y m d h i s wd yd ∧ oneT t o = oneL t o y m d h i s wd yd ∧ TellBd t o y m d h i s wd yd := by
  have ob := offB_bd o
  have r0 : 0 ≤ (t + offB o) % 86400 := by omega
  have r1 : (t + offB o) % 86400 < 86400 := by omega
  obtain ⟨y0, y1⟩ := yearOf_bd ((t + offB o) / 86400) (by omega) (by omega)
  obtain ⟨m0, m1⟩ := monOf_bd ((t + offB o) / 86400)
  obtain ⟨d0, d1⟩ := mdayOf_bd ((t + offB o) / 86400)
  obtain ⟨w0, w1⟩ := weekday_bd ((t + offB o) / 86400)
  obtain ⟨n0, n1⟩ := ydayOf_bd ((t + offB o) / 86400)
  refine ⟨_, _, _, _, _, _, _, _, rfl, rfl, ⟨t0, t1, o0, o1, by omega, by omega, m0, m1, d0, d1, ?_, ?_, ?_, ?_, ?_, ?_, w0, w1, n0, n1⟩⟩
  all_goals omega
theorem oneT_len (t o : Int) (t0 : -9223372036854775808 ≤ t) (t1 : t ≤ 9223372036854775807) (o0 : -9223372036854775808 ≤ o) (o1 : o ≤ 9223372036854775807) (c : UInt8) (l : List UInt8) (hl : oneT t o c = some l) : l.length ≤ 26 := by
  obtain ⟨y, m, d, h, i, s, wd, yd, _, e, B⟩ := date_of t o t0 t1 o0 o1
  rw [e] at hl
  exact oneL_len _ _ _ _ _ _ _ _ _ _ B.t0 B.t1 B.y0 B.y1 c l hl
theorem ne_of (c k : UInt8) (n : Nat) (hk : k.toNat = n) (h : c ≠ k) : ((c.toNat : Int) == (n : Int)) = false := by
  rw [beq_eq_false_iff_ne]
  intro e
  exact h (UInt8.toNat_inj.1 (by omega))
theorem told_any (t o y m d h i s wd yd : Int) (B : TellBd t o y m d h i s wd yd) (dir : ByteArray) (hz : 1 < dir.size) (w : World) (hT : STab w) (c : UInt8) (hc : dir[1]'hz = c) :
    Calls Tryz.prog 135 #[.agg #[.int .i64 t, .int .i64 o, .int .i64 y, .int .i64 m, .int .i64 d, .int .i64 h, .int .i64 i, .int .i64 s, .int .i64 wd, .int .i64 yd], .string dir] w
      fun e w' => e = .returned (.string (txt ((oneL t o y m d h i s wd yd c).getD dir.data.toList))) ∧ Below w.heap.size w w' := by
  by_cases e1 : c = 89
  · subst e1; exact told_Y _ _ _ _ _ _ _ _ _ _ B dir hz w hT (by rw [hc]; rfl)
  by_cases e2 : c = 109
  · subst e2; exact told_m _ _ _ _ _ _ _ _ _ _ B dir hz w hT (by rw [hc]; rfl)
  by_cases e3 : c = 100
  · subst e3; exact told_d _ _ _ _ _ _ _ _ _ _ B dir hz w hT (by rw [hc]; rfl)
  by_cases e4 : c = 72
  · subst e4; exact told_H _ _ _ _ _ _ _ _ _ _ B dir hz w hT (by rw [hc]; rfl)
  by_cases e5 : c = 77
  · subst e5; exact told_M _ _ _ _ _ _ _ _ _ _ B dir hz w hT (by rw [hc]; rfl)
  by_cases e6 : c = 83
  · subst e6; exact told_S _ _ _ _ _ _ _ _ _ _ B dir hz w hT (by rw [hc]; rfl)
  by_cases e7 : c = 101
  · subst e7; exact told_e _ _ _ _ _ _ _ _ _ _ B dir hz w hT (by rw [hc]; rfl)
  by_cases e8 : c = 106
  · subst e8; exact told_j _ _ _ _ _ _ _ _ _ _ B dir hz w hT (by rw [hc]; rfl)
  by_cases e9 : c = 98
  · subst e9; exact told_b _ _ _ _ _ _ _ _ _ _ B dir hz w hT (by rw [hc]; rfl)
  by_cases e10 : c = 97
  · subst e10; exact told_a _ _ _ _ _ _ _ _ _ _ B dir hz w hT (by rw [hc]; rfl)
  by_cases e11 : c = 115
  · subst e11; exact told_s _ _ _ _ _ _ _ _ _ _ B dir hz w hT (by rw [hc]; rfl)
  by_cases e12 : c = 122
  · subst e12; exact told_z _ _ _ _ _ _ _ _ _ _ B dir hz w hT (by rw [hc]; rfl)
  by_cases e13 : c = 70
  · subst e13; exact told_F _ _ _ _ _ _ _ _ _ _ B dir hz w hT (by rw [hc]; rfl)
  by_cases e14 : c = 84
  · subst e14; exact told_T _ _ _ _ _ _ _ _ _ _ B dir hz w hT (by rw [hc]; rfl)
  by_cases e15 : c = 37
  · subst e15; exact told_pct _ _ _ _ _ _ _ _ _ _ B dir hz w hT (by rw [hc]; rfl)
  have e : oneL t o y m d h i s wd yd c = none := by
    unfold oneL
    rw [if_neg e1, if_neg e2, if_neg e3, if_neg e4, if_neg e5, if_neg e6, if_neg e7, if_neg e8, if_neg e9, if_neg e10, if_neg e11, if_neg e12, if_neg e13, if_neg e14, if_neg e15]
  rw [e]
  have ed : txt dir.data.toList = dir := by cases dir; rfl
  rw [show (Option.none : Option (List UInt8)).getD dir.data.toList = dir.data.toList from rfl, ed]
  exact told_none _ _ _ _ _ _ _ _ _ _ B dir hz w hT c.toNat (by rw [hc]) (ne_of c 89 89 rfl e1) (ne_of c 109 109 rfl e2) (ne_of c 100 100 rfl e3) (ne_of c 72 72 rfl e4) (ne_of c 77 77 rfl e5) (ne_of c 83 83 rfl e6) (ne_of c 101 101 rfl e7) (ne_of c 106 106 rfl e8) (ne_of c 98 98 rfl e9) (ne_of c 97 97 rfl e10) (ne_of c 115 115 rfl e11) (ne_of c 122 122 rfl e12) (ne_of c 70 70 rfl e13) (ne_of c 84 84 rfl e14) (ne_of c 37 37 rfl e15)
end Go.Proofs.YtfhagjnlliafiaaGreatDoor.S
namespace Go.Proofs.YtfhagjnlliafiaaGreatDoor.S
open Go.Proofs.YtfhagjnlliafiaaGreatDoor.D Go.Proofs.YtfhagjnlliafiaaGreatDoor.N
open Go.RowKit
def fmtT (t o : Int) (l : List UInt8) : List UInt8 := fmtL (oneT t o) l
theorem oneT_pct (t o : Int) : oneT t o 37 = some [37] := rfl
theorem fmtT_pair (t o : Int) (e : UInt8) (r : List UInt8) : fmtT t o (37 :: e :: r) = (oneT t o e).getD [37, e] ++ fmtT t o r := by
  unfold fmtT
  cases h : oneT t o e with
  | some s => rw [fmtL_told _ _ h]; rfl
  | none =>
    rw [fmtL_none _ _ h, fmtL_plain]
    · rfl
    · intro hc
      subst hc
      rw [oneT_pct] at h
      cases h
theorem fmtT_len (t o : Int) (t0 : -9223372036854775808 ≤ t) (t1 : t ≤ 9223372036854775807) (o0 : -9223372036854775808 ≤ o) (o1 : o ≤ 9223372036854775807) (l : List UInt8) : (fmtT t o l).length ≤ 26 * l.length :=
  fmtL_length _ 26 (fun c s h => oneT_len t o t0 t1 o0 o1 c s h) (by decide) l.length l (Nat.le_refl _)
theorem get_data (f : ByteArray) (k : Nat) (h : k < f.size) : f.data.toList.drop k = (f[k]'h) :: f.data.toList.drop (k + 1) := List.drop_eq_getElem_cons (l := f.data.toList) (by simpa using h)
theorem two_bytes (f : ByteArray) (k : Nat) (h : k + 1 < f.size) : (f.extract k (k + 2)).data.toList = [f[k]'(by omega), f[k + 1]'h] := by
  have e1 := get_data f k (by omega)
  have e2 := get_data f (k + 1) h
  rw [ByteArray.data_extract, Array.toList_extract, List.extract_eq_take_drop, e1, e2, show k + 2 - k = 2 by omega]
  rfl
structure InFmt (B : Nat) (t o y m d h i s wd yd : Int) (w0 : World) : Prop where
  lt : B < w0.heap.size
  ct : w0.cell? ⟨B, 0, none⟩ = some (.int .i64 t)
  co : w0.cell? ⟨B, 1, none⟩ = some (.int .i64 o)
  c0 : w0.cell? ⟨B, 2, none⟩ = some (.int .i64 y)
  c1 : w0.cell? ⟨B, 3, none⟩ = some (.int .i64 m)
  c2 : w0.cell? ⟨B, 4, none⟩ = some (.int .i64 d)
  c3 : w0.cell? ⟨B, 5, none⟩ = some (.int .i64 h)
  c4 : w0.cell? ⟨B, 6, none⟩ = some (.int .i64 i)
  c5 : w0.cell? ⟨B, 7, none⟩ = some (.int .i64 s)
  c6 : w0.cell? ⟨B, 8, none⟩ = some (.int .i64 wd)
  c7 : w0.cell? ⟨B, 9, none⟩ = some (.int .i64 yd)
theorem InFmt.start (w : World) (t o y m d h i s wd yd : Int) : InFmt w.heap.size t o y m d h i s wd yd (w.alloc (.cells #[.int .i64 t, .int .i64 o, .int .i64 y, .int .i64 m, .int .i64 d, .int .i64 h, .int .i64 i, .int .i64 s, .int .i64 wd, .int .i64 yd] 188)) := by
  refine ⟨by simp, ?_, ?_, ?_, ?_, ?_, ?_, ?_, ?_, ?_, ?_⟩
  all_goals simp [go_sem]
theorem InFmt.keep {B : Nat} {t o y m d h i s wd yd : Int} {w0 w' : World} (k : InFmt B t o y m d h i s wd yd w0) (hb : Below w0.heap.size w0 w') : InFmt B t o y m d h i s wd yd w' := by
  have l := k.lt
  have hs := hb.size
  exact ⟨by omega,
    by rw [hb.cell (p := ⟨B, 0, none⟩) l]; exact k.ct, by rw [hb.cell (p := ⟨B, 1, none⟩) l]; exact k.co,
    by rw [hb.cell (p := ⟨B, 2, none⟩) l]; exact k.c0, by rw [hb.cell (p := ⟨B, 3, none⟩) l]; exact k.c1, by rw [hb.cell (p := ⟨B, 4, none⟩) l]; exact k.c2, by rw [hb.cell (p := ⟨B, 5, none⟩) l]; exact k.c3,
    by rw [hb.cell (p := ⟨B, 6, none⟩) l]; exact k.c4, by rw [hb.cell (p := ⟨B, 7, none⟩) l]; exact k.c5, by rw [hb.cell (p := ⟨B, 8, none⟩) l]; exact k.c6, by rw [hb.cell (p := ⟨B, 9, none⟩) l]; exact k.c7⟩
theorem Bld.drew {W0 : World} {b : Nat} {l : List UInt8} {w : World} (h : Bld W0 b l w) : Bld W0 b l w.drew := h.keep ⟨rfl, rfl, rfl, Nat.le_refl _, fun _ _ => rfl⟩
theorem cells_of {W0 w' : World} {b B : Nat} {l : List UInt8} {t o y m d h i s wd yd : Int} (hB : Bld W0 b l w') (k : InFmt B t o y m d h i s wd yd W0) :
    w'.cell? ⟨B, 0, none⟩ = some (.int .i64 t) ∧ w'.cell? ⟨B, 1, none⟩ = some (.int .i64 o) ∧ w'.cell? ⟨B, 2, none⟩ = some (.int .i64 y) ∧ w'.cell? ⟨B, 3, none⟩ = some (.int .i64 m) ∧ w'.cell? ⟨B, 4, none⟩ = some (.int .i64 d) ∧ w'.cell? ⟨B, 5, none⟩ = some (.int .i64 h) ∧ w'.cell? ⟨B, 6, none⟩ = some (.int .i64 i) ∧ w'.cell? ⟨B, 7, none⟩ = some (.int .i64 s) ∧ w'.cell? ⟨B, 8, none⟩ = some (.int .i64 wd) ∧ w'.cell? ⟨B, 9, none⟩ = some (.int .i64 yd) :=
  have k := k.keep hB.2.1
  ⟨k.ct, k.co, k.c0, k.c1, k.c2, k.c3, k.c4, k.c5, k.c6, k.c7⟩
def FmtRel (f : ByteArray) (t o : Int) (W0 : World) (b : Nat) (v : Value) (w' : World) : Prop :=
  ∃ (k : Nat) (out : List UInt8), k ≤ f.size ∧ v = .int .i64 (k : Int) ∧ Bld W0 b out w' ∧ out ++ fmtT t o (f.data.toList.drop k) = fmtT t o f.data.toList ∧ out.length ≤ 26 * f.size
theorem format_any (f : ByteArray) (t o : Int) (w : World) (hT : STab w) (hf : f.size ≤ 1000000) (t0 : -9223372036854775808 ≤ t) (t1 : t ≤ 9223372036854775807) (o0 : -9223372036854775808 ≤ o) (o1 : o ≤ 9223372036854775807) :
    Calls Tryz.prog 112 #[.string f, .int .i64 t, .int .i64 o] w fun e w' => e = .returned (.string (txt (fmtT t o f.data.toList))) ∧ Below w.heap.size w w' := by
  have HT := Lib.hid hT
  have hlen := fmtT_len t o t0 t1 o0 o1 f.data.toList
  rw [show f.data.toList.length = f.size by simp] at hlen
  obtain ⟨y, m, d, h, i, s, wd, yd, hv, hone, B⟩ := date_of t o t0 t1 o0 o1
  have HO := Lib.hid hone
  have BB := Lib.hid B
  have hl1 : ∀ c l, oneT t o c = some l → l.length ≤ 26 := fun c l h => oneT_len t o t0 t1 o0 o1 c l h
  have HL := Lib.hid hl1
  have cO := of_any t o w t0 t1 hT.len
  rw [hv, agg_of] at cO
  clear hT hone B hl1 hv
  go_enter Tryz.func112, Tryz.ntmps112
  go_wp2_with fail
  refine cO.mono ?_
  rintro e w1 ⟨rfl, hb⟩
  have HB1 := Lib.hid hb
  have HT1 := Lib.hid (HT.out.keep hb)
  clear hb HT cO
  go_wp2_with fail
  have HM := Lib.hid (Bld.made (w1.alloc (.cells #[.int .i64 t, .int .i64 o, .int .i64 y, .int .i64 m, .int .i64 d, .int .i64 h, .int .i64 i, .int .i64 s, .int .i64 wd, .int .i64 yd] 188)))
  have HC := Lib.hid (InFmt.start w1 t o y m d h i s wd yd)
  have HW0 : Hid (Below w.heap.size w (w1.alloc (.cells #[.int .i64 t, .int .i64 o, .int .i64 y, .int .i64 m, .int .i64 d, .int .i64 h, .int .i64 i, .int .i64 s, .int .i64 wd, .int .i64 yd] 188))) := Lib.hid (HB1.out.trans ((Below.refl _ _).alloc (HB1.out.size) _))
  have HT0 : Hid (STab (w1.alloc (.cells #[.int .i64 t, .int .i64 o, .int .i64 y, .int .i64 m, .int .i64 d, .int .i64 h, .int .i64 i, .int .i64 s, .int .i64 wd, .int .i64 yd] 188))) := Lib.hid (HT1.out.keep ((Below.refl _ _).alloc (Nat.le_refl _) _))
  go_loopw [9] (FmtRel f t o (w1.alloc (.cells #[.int .i64 t, .int .i64 o, .int .i64 y, .int .i64 m, .int .i64 d, .int .i64 h, .int .i64 i, .int .i64 s, .int .i64 wd, .int .i64 yd] 188)) (w1.heap.size + 1)) (fun v _ => f.size - (intOf v).toNat)
  case atStart =>
    have hm := HM.out
    simp only [World.size_alloc] at hm
    exact ⟨0, [], Nat.zero_le _, rfl, hm, rfl, by simp⟩
  case round =>
    generalize (w1.alloc (.cells #[.int .i64 t, .int .i64 o, .int .i64 y, .int .i64 m, .int .i64 d, .int .i64 h, .int .i64 i, .int .i64 s, .int .i64 wd, .int .i64 yd] 188)) = W0 at *
    obtain ⟨k, out, hk, rfl, hb, hr, hol⟩ := hrel
    have HB := Lib.hid hb
    have HR := Lib.hid hr
    have HCC := Lib.hid (cells_of hb HC.out)
    clear hb hr
    by_cases hlt : k < f.size
    · obtain ⟨c, hc⟩ : ∃ c, f[k]'hlt = c := ⟨_, rfl⟩
      have HD : Hid (f.data.toList.drop k = c :: f.data.toList.drop (k + 1)) := Lib.hid (by rw [get_data f k hlt, hc])
      obtain ⟨n, hn⟩ : ∃ n, c.toNat = n := ⟨_, rfl⟩
      have HN : Hid ((c = 37) ↔ n = 37) := Lib.hid (by rw [← UInt8.toNat_inj, hn]; rfl)
      have HE : Hid (∀ l, l ++ fmtT t o (f.data.toList.drop (k + 1)) = fmtT t o (f.data.toList.drop k) → out ++ l ++ fmtT t o (f.data.toList.drop (k + 1)) = fmtT t o f.data.toList ∧ (out ++ l).length ≤ 26 * f.size) := Lib.hid (fun l hl => by
        have e : out ++ l ++ fmtT t o (f.data.toList.drop (k + 1)) = fmtT t o f.data.toList := by rw [List.append_assoc, hl, HR.out]
        have := congrArg List.length e
        rw [List.length_append] at this
        exact ⟨e, by omega⟩)
      have HE2 : Hid (∀ l, l ++ fmtT t o (f.data.toList.drop (k + 2)) = fmtT t o (f.data.toList.drop k) → out ++ l ++ fmtT t o (f.data.toList.drop (k + 2)) = fmtT t o f.data.toList ∧ (out ++ l).length ≤ 26 * f.size) := Lib.hid (fun l hl => by
        have e : out ++ l ++ fmtT t o (f.data.toList.drop (k + 2)) = fmtT t o f.data.toList := by rw [List.append_assoc, hl, HR.out]
        have := congrArg List.length e
        rw [List.length_append] at this
        exact ⟨e, by omega⟩)
      by_cases h37 : n = 37
      · have hx : ((n : Int) != 37) = false := by rw [h37]; rfl
        by_cases hlast : k + 1 = f.size
        · have hq : ((k : Int) == (f.size : Int) - 1) = true := beq_iff_eq.2 (by omega)
          have HF := Lib.hid (HE.out [c] (by rw [HD.out, show f.data.toList.drop (k + 1) = [] from List.drop_eq_nil_of_le (by simp; omega)]; unfold fmtT; rw [fmtL_nil, fmtL_last]; rfl))
          clear h37 HE HE2
          go_wp2_with fail
          refine (HB.out.writeByte (by omega) c _ (by rw [hn])).mono ?_
          rintro e w3 ⟨rfl, h3⟩
          have HB3 := Lib.hid h3
          clear h3
          go_wp2_with fail
          go_roundw
          case rel => exact ⟨k + 1, out ++ [c], by omega, by go_num, HB3.out, HF.out.1, HF.out.2⟩
          case measure => simp [intOf]; omega
        · have hq : ((k : Int) == (f.size : Int) - 1) = false := beq_eq_false_iff_ne.2 (by omega)
          have hin : k + 1 < f.size := by omega
          obtain ⟨c2, hc2⟩ : ∃ c2, f[k + 1]'hin = c2 := ⟨_, rfl⟩
          have hdir := two_bytes f k hin
          rw [hc, hc2] at hdir
          obtain ⟨D, hD⟩ : ∃ D, f.extract k (k + 2) = D := ⟨_, rfl⟩
          rw [hD] at hdir
          have hDs : D.size = 2 := by have := congrArg List.length hdir; simpa using this
          have hD1 : D[1]'(by omega) = c2 := by
            have e1 := get_data D 1 (by omega)
            rw [hdir] at e1
            exact (List.cons.inj e1).1.symm
          obtain ⟨S, hS⟩ : ∃ S, (oneT t o c2).getD [c, c2] = S := ⟨_, rfl⟩
          have hSl : S.length ≤ 26 := by
            rw [← hS]
            cases ho : oneT t o c2 with
            | none => simp
            | some l => exact HL.out c2 l ho
          have HF := Lib.hid (HE2.out S (by rw [HD.out, get_data f (k + 1) hin, hc2, HN.out.2 h37, fmtT_pair, ← hS, HN.out.2 h37]))
          have cT := fun (wx : World) (hx : STab wx) => told_any t o y m d h i s wd yd BB.out D (by omega) wx hx c2 hD1
          rw [hdir, ← HO.out, hS] at cT
          have HCT := Lib.hid cT
          have i1 : (k : Int) + 2 ≤ (f.size : Int) := by omega
          have i2 : (0 : Int) ≤ (k : Int) := by omega
          have i3 : (k : Int) ≤ (k : Int) + 2 := by omega
          have i4 : (0 : Int) ≤ (k : Int) + 2 := by omega
          have i5 : ((k : Int) + 2).toNat = k + 2 := by omega
          have hw : IntKind.i64.wrap ((k : Int) + 2) = (k : Int) + 2 := IntWalk.i64_in _ (by omega)
          clear h37 HE HE2 hc2 hdir hD1 hS cT
          have hBd := HB.out.drew
          go_wp2_with fail
          go_region_held3 (fun w' => w'.cell? ⟨w1.heap.size, 0, none⟩ = some (.int .i64 t) ∧ w'.cell? ⟨w1.heap.size, 1, none⟩ = some (.int .i64 o) ∧ w'.cell? ⟨w1.heap.size, 2, none⟩ = some (.int .i64 y) ∧ w'.cell? ⟨w1.heap.size, 3, none⟩ = some (.int .i64 m) ∧ w'.cell? ⟨w1.heap.size, 4, none⟩ = some (.int .i64 d) ∧ w'.cell? ⟨w1.heap.size, 5, none⟩ = some (.int .i64 h) ∧ w'.cell? ⟨w1.heap.size, 6, none⟩ = some (.int .i64 i) ∧ w'.cell? ⟨w1.heap.size, 7, none⟩ = some (.int .i64 s) ∧ w'.cell? ⟨w1.heap.size, 8, none⟩ = some (.int .i64 wd) ∧ w'.cell? ⟨w1.heap.size, 9, none⟩ = some (.int .i64 yd)) (first | exact cells_of hB4 HC.out | exact cells_of hB3 HC.out | exact cells_of hBd HC.out) (first | (go_at_call 135; refine (HCT.out _ (HT0.out.keep hBd.2.1)).mono ?_; rintro e w3 ⟨rfl, hb3⟩; have hB3 := hBd.keep hb3) | (go_at_call 57; refine (hB3.writeString (by omega) (txt S) (by rw [txt_size]; omega)).mono ?_; rintro e w4 ⟨⟨v4, rfl⟩, hB4⟩))
          rw [txt_list] at hB4
          have HB4 := Lib.hid hB4
          clear hB4 hB3 hBd
          go_wp2_with fail
          go_roundw
          case rel => exact ⟨k + 2, out ++ S, by omega, by go_num, HB4.out, HF.out.1, HF.out.2⟩
          case measure => simp [intOf]; omega
      · have hx : ((n : Int) != 37) = true := by simp; omega
        have HF := Lib.hid (HE.out [c] (by rw [HD.out]; unfold fmtT; rw [fmtL_plain _ _ (fun e => h37 (HN.out.1 e))]; rfl))
        clear h37 HE HE2
        go_wp2_with fail
        refine (HB.out.writeByte (by omega) c _ (by rw [hn])).mono ?_
        rintro e w3 ⟨rfl, h3⟩
        have HB3 := Lib.hid h3
        clear h3
        go_wp2_with fail
        go_roundw
        case rel => exact ⟨k + 1, out ++ [c], by omega, by go_num, HB3.out, HF.out.1, HF.out.2⟩
        case measure => simp [intOf]; omega
    · have hkk : k = f.size := by omega
      go_wp2_with fail
      refine HB.out.string.mono ?_
      rintro e w3 ⟨rfl, hb⟩
      have HB3 := Lib.hid (HW0.out.trans (hb.mono (by have := HW0.out.size; omega)))
      clear hb
      go_wp2_with fail
      go_ret
      refine ⟨ret_str ?_, HB3.out⟩
      rw [← HR.out, hkk, List.drop_eq_nil_of_le (by simp)]
      unfold fmtT
      rw [fmtL_nil, List.append_nil]
end Go.Proofs.YtfhagjnlliafiaaGreatDoor.S
