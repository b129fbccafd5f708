/-
  What stamp's told returns; what a directive writes of a time. Conditions: the library's tables and the package's lie as their text lays them.
-/
import Derived.Test.YtiegibgllnojcaaDoorSToldA
import Derived.Test.YtiegibgllnojcaaDoorSToldF
set_option linter.unusedVariables false
namespace Go.Proofs.YtiegibgllnojcaaDoor
open Go.RowKit

/-- What a directive of a time writes. -/
def oneT (t o : Int) : UInt8 → Option (List UInt8) :=
  oneL t o (yearOf ((t + offB o) / 86400)) (monOf ((t + offB o) / 86400)) (mdayOf ((t + offB o) / 86400)) ((t + offB o) % 86400 / 3600) ((t + offB o) % 86400 / 60 % 60) ((t + offB o) % 86400 % 60) (weekday ((t + offB o) / 86400)) (ydayOf ((t + offB o) / 86400))
/-- The time's date, its numbers as letters. -/
theorem date_of (t o : Int) (t0 : -9223372036854775808 ≤ t) (t1 : t ≤ 9223372036854775807) (o0 : -9223372036854775808 ≤ o) (o1 : o ≤ 9223372036854775807) :
    ∃ y m d h i s wd yd, dateV (t + offB o) = dv y m d h i s wd yd ∧ oneT t o = oneL t o y m d h i s wd yd ∧ TellBd t o y m d h i s wd yd := by
  have ob := offB_bd o
  have r0 : 0 ≤ (t + offB o) % 86400 := by omega
  have r1 : (t + offB o) % 86400 < 86400 := by omega
  obtain ⟨y0, y1⟩ := yearOf_bd ((t + offB o) / 86400) (by omega) (by omega)
  obtain ⟨m0, m1⟩ := monOf_bd ((t + offB o) / 86400)
  obtain ⟨d0, d1⟩ := mdayOf_bd ((t + offB o) / 86400)
  obtain ⟨w0, w1⟩ := weekday_bd ((t + offB o) / 86400)
  obtain ⟨n0, n1⟩ := ydayOf_bd ((t + offB o) / 86400)
  refine ⟨_, _, _, _, _, _, _, _, rfl, rfl, ⟨t0, t1, o0, o1, by omega, by omega, m0, m1, d0, d1, ?_, ?_, ?_, ?_, ?_, ?_, w0, w1, n0, n1⟩⟩
  all_goals omega
theorem oneT_len (t o : Int) (t0 : -9223372036854775808 ≤ t) (t1 : t ≤ 9223372036854775807) (o0 : -9223372036854775808 ≤ o) (o1 : o ≤ 9223372036854775807) (c : UInt8) (l : List UInt8) (hl : oneT t o c = some l) : l.length ≤ 26 := by
  obtain ⟨y, m, d, h, i, s, wd, yd, _, e, B⟩ := date_of t o t0 t1 o0 o1
  rw [e] at hl
  exact oneL_len _ _ _ _ _ _ _ _ _ _ B.t0 B.t1 B.y0 B.y1 c l hl

theorem ne_of (c k : UInt8) (n : Nat) (hk : k.toNat = n) (h : c ≠ k) : ((c.toNat : Int) == (n : Int)) = false := by
  rw [beq_eq_false_iff_ne]
  intro e
  exact h (UInt8.toNat_inj.1 (by omega))
theorem told_any (t o y m d h i s wd yd : Int) (B : TellBd t o y m d h i s wd yd) (dir : ByteArray) (hz : 1 < dir.size) (w : World) (hT : STab w) (c : UInt8) (hc : dir[1]'hz = c) :
    Calls Tryd.prog 22 #[.agg #[.int .i64 t, .int .i64 o, .int .i64 y, .int .i64 m, .int .i64 d, .int .i64 h, .int .i64 i, .int .i64 s, .int .i64 wd, .int .i64 yd], .string dir] w
      fun e w' => e = .returned (.string (txt ((oneL t o y m d h i s wd yd c).getD dir.data.toList))) ∧ Below w.heap.size w w' := by
  by_cases e1 : c = 89
  · subst e1; exact told_Y _ _ _ _ _ _ _ _ _ _ B dir hz w hT (by rw [hc]; rfl)
  by_cases e2 : c = 109
  · subst e2; exact told_m _ _ _ _ _ _ _ _ _ _ B dir hz w hT (by rw [hc]; rfl)
  by_cases e3 : c = 100
  · subst e3; exact told_d _ _ _ _ _ _ _ _ _ _ B dir hz w hT (by rw [hc]; rfl)
  by_cases e4 : c = 72
  · subst e4; exact told_H _ _ _ _ _ _ _ _ _ _ B dir hz w hT (by rw [hc]; rfl)
  by_cases e5 : c = 77
  · subst e5; exact told_M _ _ _ _ _ _ _ _ _ _ B dir hz w hT (by rw [hc]; rfl)
  by_cases e6 : c = 83
  · subst e6; exact told_S _ _ _ _ _ _ _ _ _ _ B dir hz w hT (by rw [hc]; rfl)
  by_cases e7 : c = 101
  · subst e7; exact told_e _ _ _ _ _ _ _ _ _ _ B dir hz w hT (by rw [hc]; rfl)
  by_cases e8 : c = 106
  · subst e8; exact told_j _ _ _ _ _ _ _ _ _ _ B dir hz w hT (by rw [hc]; rfl)
  by_cases e9 : c = 98
  · subst e9; exact told_b _ _ _ _ _ _ _ _ _ _ B dir hz w hT (by rw [hc]; rfl)
  by_cases e10 : c = 97
  · subst e10; exact told_a _ _ _ _ _ _ _ _ _ _ B dir hz w hT (by rw [hc]; rfl)
  by_cases e11 : c = 115
  · subst e11; exact told_s _ _ _ _ _ _ _ _ _ _ B dir hz w hT (by rw [hc]; rfl)
  by_cases e12 : c = 122
  · subst e12; exact told_z _ _ _ _ _ _ _ _ _ _ B dir hz w hT (by rw [hc]; rfl)
  by_cases e13 : c = 70
  · subst e13; exact told_F _ _ _ _ _ _ _ _ _ _ B dir hz w hT (by rw [hc]; rfl)
  by_cases e14 : c = 84
  · subst e14; exact told_T _ _ _ _ _ _ _ _ _ _ B dir hz w hT (by rw [hc]; rfl)
  by_cases e15 : c = 37
  · subst e15; exact told_pct _ _ _ _ _ _ _ _ _ _ B dir hz w hT (by rw [hc]; rfl)
  have e : oneL t o y m d h i s wd yd c = none := by
    unfold oneL
    rw [if_neg e1, if_neg e2, if_neg e3, if_neg e4, if_neg e5, if_neg e6, if_neg e7, if_neg e8, if_neg e9, if_neg e10, if_neg e11, if_neg e12, if_neg e13, if_neg e14, if_neg e15]
  rw [e]
  have ed : txt dir.data.toList = dir := by cases dir; rfl
  rw [show (Option.none : Option (List UInt8)).getD dir.data.toList = dir.data.toList from rfl, ed]
  exact told_none _ _ _ _ _ _ _ _ _ _ B dir hz w hT c.toNat (by rw [hc]) (ne_of c 89 89 rfl e1) (ne_of c 109 109 rfl e2) (ne_of c 100 100 rfl e3) (ne_of c 72 72 rfl e4) (ne_of c 77 77 rfl e5) (ne_of c 83 83 rfl e6) (ne_of c 101 101 rfl e7) (ne_of c 106 106 rfl e8) (ne_of c 98 98 rfl e9) (ne_of c 97 97 rfl e10) (ne_of c 115 115 rfl e11) (ne_of c 122 122 rfl e12) (ne_of c 70 70 rfl e13) (ne_of c 84 84 rfl e14) (ne_of c 37 37 rfl e15)
end Go.Proofs.YtiegibgllnojcaaDoor
