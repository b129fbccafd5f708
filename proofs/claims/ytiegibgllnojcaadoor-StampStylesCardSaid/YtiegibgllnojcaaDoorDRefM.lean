/-
  Plain facts for the reference's Of: what its first steps bring near, and what its loops end with. Conditions: none.
-/
import Derived.Test.YtiegibgllnojcaaDoorDOf
set_option linter.unusedVariables false
namespace Go.Proofs.YtiegibgllnojcaaDoor
open Go.RowKit

/-- The frame of the reference's Of: the result's block and the date's. -/
structure Lies (w wx : World) (y m d wd yd : Int) : Prop where
  below : Below w.heap.size w wx
  size : w.heap.size + 1 < wx.heap.size
  c0 : wx.cell? ⟨w.heap.size + 1, 0, none⟩ = some (.int .i64 y)
  c1 : wx.cell? ⟨w.heap.size + 1, 1, none⟩ = some (.int .i64 m)
  c2 : wx.cell? ⟨w.heap.size + 1, 2, none⟩ = some (.int .i64 d)
  c3 : wx.cell? ⟨w.heap.size + 1, 3, none⟩ = some (.int .i64 0)
  c4 : wx.cell? ⟨w.heap.size + 1, 4, none⟩ = some (.int .i64 0)
  c5 : wx.cell? ⟨w.heap.size + 1, 5, none⟩ = some (.int .i64 0)
  c6 : wx.cell? ⟨w.heap.size + 1, 6, none⟩ = some (.int .i64 wd)
  c7 : wx.cell? ⟨w.heap.size + 1, 7, none⟩ = some (.int .i64 yd)
  fr : ∀ o, wx.frozen? ⟨w.heap.size + 1, o, none⟩ = false
  z0 : wx.cell? ⟨w.heap.size, 0, none⟩ = some (.int .i64 0)
  z1 : wx.cell? ⟨w.heap.size, 1, none⟩ = some (.int .i64 0)
  z2 : wx.cell? ⟨w.heap.size, 2, none⟩ = some (.int .i64 0)
  z3 : wx.cell? ⟨w.heap.size, 3, none⟩ = some (.int .i64 0)
  z4 : wx.cell? ⟨w.heap.size, 4, none⟩ = some (.int .i64 0)
  z5 : wx.cell? ⟨w.heap.size, 5, none⟩ = some (.int .i64 0)
  z6 : wx.cell? ⟨w.heap.size, 6, none⟩ = some (.int .i64 0)
  z7 : wx.cell? ⟨w.heap.size, 7, none⟩ = some (.int .i64 0)
  fz : ∀ o, wx.frozen? ⟨w.heap.size, o, none⟩ = false

def frameW (w : World) (wd : Int) : World :=
  (w.alloc (.cells #[.int .i64 0, .int .i64 0, .int .i64 0, .int .i64 0, .int .i64 0, .int .i64 0, .int .i64 0, .int .i64 0] 23)).alloc (.cells #[.int .i64 1970, .int .i64 1, .int .i64 1, .int .i64 0, .int .i64 0, .int .i64 0, .int .i64 wd, .int .i64 0] 23)
theorem Lies.start (w : World) (wd : Int) : Lies w (frameW w wd) 1970 1 1 wd 0 := by
  unfold frameW
  refine ⟨((Below.refl _ _).alloc (Nat.le_refl _) _).alloc (by simp) _, by simp, ?_, ?_, ?_, ?_, ?_, ?_, ?_, ?_, fun o => ?_, ?_, ?_, ?_, ?_, ?_, ?_, ?_, ?_, fun o => ?_⟩
  all_goals simp [go_sem]
theorem Lies.keep {w wx w' : World} {y m d wd yd : Int} (h : Lies w wx y m d wd yd) (hb : Below wx.heap.size wx w') : Lies w w' y m d wd yd := by
  have s := h.size
  have hs := hb.size
  exact ⟨below_two h.below (hb.mono (Nat.le_refl _)), by omega,
    by rw [hb.cell (p := ⟨w.heap.size + 1, 0, none⟩) s]; exact h.c0, by rw [hb.cell (p := ⟨w.heap.size + 1, 1, none⟩) s]; exact h.c1, by rw [hb.cell (p := ⟨w.heap.size + 1, 2, none⟩) s]; exact h.c2, by rw [hb.cell (p := ⟨w.heap.size + 1, 3, none⟩) s]; exact h.c3,
    by rw [hb.cell (p := ⟨w.heap.size + 1, 4, none⟩) s]; exact h.c4, by rw [hb.cell (p := ⟨w.heap.size + 1, 5, none⟩) s]; exact h.c5, by rw [hb.cell (p := ⟨w.heap.size + 1, 6, none⟩) s]; exact h.c6, by rw [hb.cell (p := ⟨w.heap.size + 1, 7, none⟩) s]; exact h.c7,
    fun o => by rw [hb.frozen (p := ⟨w.heap.size + 1, o, none⟩) s]; exact h.fr o,
    by rw [hb.cell (p := ⟨w.heap.size, 0, none⟩) (Nat.lt_of_succ_lt s)]; exact h.z0, by rw [hb.cell (p := ⟨w.heap.size, 1, none⟩) (Nat.lt_of_succ_lt s)]; exact h.z1, by rw [hb.cell (p := ⟨w.heap.size, 2, none⟩) (Nat.lt_of_succ_lt s)]; exact h.z2, by rw [hb.cell (p := ⟨w.heap.size, 3, none⟩) (Nat.lt_of_succ_lt s)]; exact h.z3,
    by rw [hb.cell (p := ⟨w.heap.size, 4, none⟩) (Nat.lt_of_succ_lt s)]; exact h.z4, by rw [hb.cell (p := ⟨w.heap.size, 5, none⟩) (Nat.lt_of_succ_lt s)]; exact h.z5, by rw [hb.cell (p := ⟨w.heap.size, 6, none⟩) (Nat.lt_of_succ_lt s)]; exact h.z6, by rw [hb.cell (p := ⟨w.heap.size, 7, none⟩) (Nat.lt_of_succ_lt s)]; exact h.z7,
    fun o => by rw [hb.frozen (p := ⟨w.heap.size, o, none⟩) (Nat.lt_of_succ_lt s)]; exact h.fz o⟩
theorem Lies.setY {w wx : World} {y m d wd yd : Int} (h : Lies w wx y m d wd yd) (y' : Int) : Lies w (wx.setCell ⟨w.heap.size + 1, 0, none⟩ (.int .i64 y')) y' m d wd yd := by
  refine ⟨h.below.setCell (by simp) _, by simpa using h.size, ?_, ?_, ?_, ?_, ?_, ?_, ?_, ?_, fun o => ?_, ?_, ?_, ?_, ?_, ?_, ?_, ?_, ?_, fun o => ?_⟩
  all_goals simp [go_sem, h.c0, h.c1, h.c2, h.c3, h.c4, h.c5, h.c6, h.c7, h.fr, h.z0, h.z1, h.z2, h.z3, h.z4, h.z5, h.z6, h.z7, h.fz]
theorem Lies.setM {w wx : World} {y m d wd yd : Int} (h : Lies w wx y m d wd yd) (m' : Int) : Lies w (wx.setCell ⟨w.heap.size + 1, 1, none⟩ (.int .i64 m')) y m' d wd yd := by
  refine ⟨h.below.setCell (by simp) _, by simpa using h.size, ?_, ?_, ?_, ?_, ?_, ?_, ?_, ?_, fun o => ?_, ?_, ?_, ?_, ?_, ?_, ?_, ?_, ?_, fun o => ?_⟩
  all_goals simp [go_sem, h.c0, h.c1, h.c2, h.c3, h.c4, h.c5, h.c6, h.c7, h.fr, h.z0, h.z1, h.z2, h.z3, h.z4, h.z5, h.z6, h.z7, h.fz]
theorem Lies.setYd {w wx : World} {y m d wd yd : Int} (h : Lies w wx y m d wd yd) (yd' : Int) : Lies w (wx.setCell ⟨w.heap.size + 1, 7, none⟩ (.int .i64 yd')) y m d wd yd' := by
  refine ⟨h.below.setCell (by simp) _, by simpa using h.size, ?_, ?_, ?_, ?_, ?_, ?_, ?_, ?_, fun o => ?_, ?_, ?_, ?_, ?_, ?_, ?_, ?_, ?_, fun o => ?_⟩
  all_goals simp [go_sem, h.c0, h.c1, h.c2, h.c3, h.c4, h.c5, h.c6, h.c7, h.fr, h.z0, h.z1, h.z2, h.z3, h.z4, h.z5, h.z6, h.z7, h.fz]
theorem yearNear {y N : Int} (h : toYear y ≤ N) (hN : N ≤ 146097) (h0 : 1969 ≤ y) : y ≤ 2371 := by
  apply Classical.byContradiction
  intro hn
  have := toYear_mono (show (1970 : Int) ≤ y by omega)
  rw [toYear_1970] at this
  omega
/-- What the reference ends with is the date. -/
theorem ref_date {N c y m n wd t b S : Int} (a : toYear y + n = N) (h0 : 0 ≤ n) (h1 : n < yearLen y) (m1 : 1 ≤ m) (m2 : m ≤ 12) (l0 : toMonth y m ≤ n) (l1 : n < toMonth y (m + 1))
    (hw : wd = weekday N) (hN : N + 146097 * c = (t + b) / 86400) (hS : S = (t + b) % 86400) :
    dateV (t + b) = dv (y + 400 * c) m (n - toMonth y m + 1) (S / 3600) (S / 60 % 60) (S % 60) wd (n + 1) := by
  have e := toYear_next y
  have D : IsDay N y m (n - toMonth y m + 1) (n + 1) := ⟨by omega, by omega, m1, m2, by omega, by omega, by omega, by omega⟩
  have D2 := D.cycles c
  rw [hN] at D2
  obtain ⟨e1, e2, e3, e4⟩ := isDay_eq D2
  have e5 : wd = weekday ((t + b) / 86400) := by rw [hw, ← hN, weekday_400]
  unfold dateV
  rw [← hS, ← e1, ← e2, ← e3, ← e4, ← e5]
end Go.Proofs.YtiegibgllnojcaaDoor
