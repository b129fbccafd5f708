/-
  The frame of stamp's told: a moment in its block, and its date in another. Conditions: none.
-/
import Derived.Test.YtiegibgllnojcaaDoorSZone
import Derived.Test.YtiegibgllnojcaaDoorDOf
import Derived.Deep.RegionHeld3
set_option linter.unusedVariables false
namespace Go.Proofs.YtiegibgllnojcaaDoor
open Go.RowKit

/-- A moment that lies in a block, its date in the next one; nothing that lay there when the call began has changed. -/
structure InTold (w : World) (t o y m d h i s wd yd : Int) (w0 : World) : Prop where
  below : Below w.heap.size w w0
  lt : w.heap.size + 1 < w0.heap.size
  ct : w0.cell? ⟨w.heap.size, 0, none⟩ = some (.int .i64 t)
  co : w0.cell? ⟨w.heap.size, 1, none⟩ = some (.int .i64 o)
  c0 : w0.cell? ⟨w.heap.size + 1, 0, none⟩ = some (.int .i64 y)
  c1 : w0.cell? ⟨w.heap.size + 1, 1, none⟩ = some (.int .i64 m)
  c2 : w0.cell? ⟨w.heap.size + 1, 2, none⟩ = some (.int .i64 d)
  c3 : w0.cell? ⟨w.heap.size + 1, 3, none⟩ = some (.int .i64 h)
  c4 : w0.cell? ⟨w.heap.size + 1, 4, none⟩ = some (.int .i64 i)
  c5 : w0.cell? ⟨w.heap.size + 1, 5, none⟩ = some (.int .i64 s)
  c6 : w0.cell? ⟨w.heap.size + 1, 6, none⟩ = some (.int .i64 wd)
  c7 : w0.cell? ⟨w.heap.size + 1, 7, none⟩ = some (.int .i64 yd)
variable {w w0 w' : World} {t o y m d h i s wd yd : Int}
theorem InTold.keep (k : InTold w t o y m d h i s wd yd w0) (hb : Below w0.heap.size w0 w') : InTold w t o y m d h i s wd yd w' := by
  have l := k.lt
  have l2 := Nat.lt_of_succ_lt l
  have hs := hb.size
  exact ⟨below_two k.below (hb.mono (Nat.le_refl _)), by omega,
    by rw [hb.cell (p := ⟨w.heap.size, 0, none⟩) l2]; exact k.ct, by rw [hb.cell (p := ⟨w.heap.size, 1, none⟩) l2]; exact k.co,
    by rw [hb.cell (p := ⟨w.heap.size + 1, 0, none⟩) l]; exact k.c0, by rw [hb.cell (p := ⟨w.heap.size + 1, 1, none⟩) l]; exact k.c1, by rw [hb.cell (p := ⟨w.heap.size + 1, 2, none⟩) l]; exact k.c2, by rw [hb.cell (p := ⟨w.heap.size + 1, 3, none⟩) l]; exact k.c3,
    by rw [hb.cell (p := ⟨w.heap.size + 1, 4, none⟩) l]; exact k.c4, by rw [hb.cell (p := ⟨w.heap.size + 1, 5, none⟩) l]; exact k.c5, by rw [hb.cell (p := ⟨w.heap.size + 1, 6, none⟩) l]; exact k.c6, by rw [hb.cell (p := ⟨w.heap.size + 1, 7, none⟩) l]; exact k.c7⟩
theorem InTold.drew (k : InTold w t o y m d h i s wd yd w0) : InTold w t o y m d h i s wd yd w0.drew :=
  ⟨k.below.trans ⟨rfl, rfl, rfl, Nat.le_refl _, fun _ _ => rfl⟩, k.lt, k.ct, k.co, k.c0, k.c1, k.c2, k.c3, k.c4, k.c5, k.c6, k.c7⟩
theorem InTold.start (w : World) (t o y m d h i s wd yd : Int) : InTold w t o y m d h i s wd yd ((w.alloc (.cells #[.int .i64 t, .int .i64 o, .int .i64 y, .int .i64 m, .int .i64 d, .int .i64 h, .int .i64 i, .int .i64 s, .int .i64 wd, .int .i64 yd] 42)).alloc (.cells #[.int .i64 y, .int .i64 m, .int .i64 d, .int .i64 h, .int .i64 i, .int .i64 s, .int .i64 wd, .int .i64 yd] 23)) := by
  refine ⟨((Below.refl _ _).alloc (Nat.le_refl _) _).alloc (by simp) _, by simp, ?_, ?_, ?_, ?_, ?_, ?_, ?_, ?_, ?_, ?_⟩
  all_goals simp [go_sem]
theorem two_from (k : InTold w t o y m d h i s wd yd w0) (n : Int) (h0 : 0 ≤ n) (h1 : n < 100) (hT : STab w) :
    Calls Tryd.prog 31 #[.int .i64 n, .int .i64 2] w0 fun e w' => e = .returned (.string (txt (twoL n.toNat))) ∧ InTold w t o y m d h i s wd yd w' := by
  refine (two_any n w0 h0 h1 (hT.pow.keep k.below)).mono ?_
  rintro e w' ⟨rfl, hb⟩
  exact ⟨rfl, k.keep hb⟩
theorem dec_from (k : InTold w t o y m d h i s wd yd w0) (n : Int) (h0 : -9223372036854775808 ≤ n) (h1 : n ≤ 9223372036854775807) (hT : STab w) :
    Calls Tryd.prog 8 #[.int .i64 n] w0 fun e w' => e = .returned (.string (txt (Lib.itoa n))) ∧ InTold w t o y m d h i s wd yd w' := by
  refine (dec_any n w0 h0 h1 (hT.pow.keep k.below)).mono ?_
  rintro e w' ⟨rfl, hb⟩
  exact ⟨rfl, k.keep hb⟩
theorem three_from (k : InTold w t o y m d h i s wd yd w0) (n : Int) (h0 : 0 ≤ n) (h1 : n < 1000) (hT : STab w) :
    Calls Tryd.prog 31 #[.int .i64 n, .int .i64 3] w0 fun e w' => e = .returned (.string (txt (threeL n.toNat))) ∧ InTold w t o y m d h i s wd yd w' := by
  refine (three_any n w0 h0 h1 (hT.pow.keep k.below)).mono ?_
  rintro e w' ⟨rfl, hb⟩
  exact ⟨rfl, k.keep hb⟩
theorem zone_from (k : InTold w t o y m d h i s wd yd w0) (h0 : -9223372036854775808 ≤ o) (h1 : o ≤ 9223372036854775807) (hT : STab w) :
    Calls Tryd.prog 33 #[.int .i64 o] w0 fun e w' => e = .returned (.string (txt (zoneL o))) ∧ InTold w t o y m d h i s wd yd w' := by
  refine (zone_any o w0 h0 h1 (hT.pow.keep k.below)).mono ?_
  rintro e w' ⟨rfl, hb⟩
  exact ⟨rfl, k.keep hb⟩
/-- The bounds of a date's numbers. -/
structure TellBd (t o y m d h i s wd yd : Int) : Prop where
  t0 : -9223372036854775808 ≤ t
  t1 : t ≤ 9223372036854775807
  o0 : -9223372036854775808 ≤ o
  o1 : o ≤ 9223372036854775807
  y0 : -9223372036854775808 ≤ y
  y1 : y ≤ 9223372036854775807
  m1 : 1 ≤ m
  m12 : m ≤ 12
  d1 : 1 ≤ d
  d31 : d ≤ 31
  h0 : 0 ≤ h
  h24 : h ≤ 23
  i0 : 0 ≤ i
  i60 : i ≤ 59
  s0 : 0 ≤ s
  s60 : s ≤ 59
  wd0 : 0 ≤ wd
  wd1 : wd ≤ 6
  yd1' : 1 ≤ yd
  yd366 : yd ≤ 366
theorem TellBd.m0 (B : TellBd t o y m d h i s wd yd) : 0 ≤ m := by have := B.m1; omega
theorem TellBd.mH (B : TellBd t o y m d h i s wd yd) : m < 100 := by have := B.m12; omega
theorem TellBd.d0 (B : TellBd t o y m d h i s wd yd) : 0 ≤ d := by have := B.d1; omega
theorem TellBd.dH (B : TellBd t o y m d h i s wd yd) : d < 100 := by have := B.d31; omega
theorem TellBd.hH (B : TellBd t o y m d h i s wd yd) : h < 100 := by have := B.h24; omega
theorem TellBd.iH (B : TellBd t o y m d h i s wd yd) : i < 100 := by have := B.i60; omega
theorem TellBd.sH (B : TellBd t o y m d h i s wd yd) : s < 100 := by have := B.s60; omega
theorem TellBd.yd0 (B : TellBd t o y m d h i s wd yd) : 0 ≤ yd := by have := B.yd1'; omega
theorem TellBd.yd1 (B : TellBd t o y m d h i s wd yd) : yd < 1000 := by have := B.yd366; omega
theorem blank_day {l : List UInt8} {d : Int} (h : List.replicate (2 - l.length) 32 ++ l = dayL d) (l1 : 1 ≤ l.length) (l2 : l.length ≤ 3) : blankS (lackN (l.length : Int) 2) ++ txt l = txt (dayL d) := by
  rw [← h]
  have e : lackN (l.length : Int) 2 = 2 - l.length := by unfold lackN clampZ; omega
  rw [e]
  exact txt_append _ _
theorem STab.lt (h : STab w) : 0 < w.heap.size ∧ 1 < w.heap.size := ⟨cell_lt (a := ⟨0, 0, none⟩) (h.mon 0 (by omega)), cell_lt (a := ⟨1, 0, none⟩) (h.day 0 (by omega))⟩
/-- What five texts together are. -/
theorem five_add (P : Program) (a b c : List UInt8) (ha : a.length ≤ 20) (hb : b.length ≤ 20) (hc : c.length ≤ 20) (q : UInt8) : ∃ b1 b2 b3 b4 : ByteArray,
    (∀ w : World, (Op.stringOp .add (txt a) ⟨#[q]⟩).run P w = .ok (.string b1) w) ∧ (∀ w : World, (Op.stringOp .add b1 (txt b)).run P w = .ok (.string b2) w) ∧
    (∀ w : World, (Op.stringOp .add b2 ⟨#[q]⟩).run P w = .ok (.string b3) w) ∧ (∀ w : World, (Op.stringOp .add b3 (txt c)).run P w = .ok (.string b4) w) ∧ Hid (b4 = txt (a ++ [q] ++ b ++ [q] ++ c)) := by
  have e : (⟨#[q]⟩ : ByteArray) = txt [q] := rfl
  rw [e]
  refine ⟨txt (a ++ [q]), txt (a ++ [q] ++ b), txt (a ++ [q] ++ b ++ [q]), _, fun w => ?_, fun w => ?_, fun w => ?_, fun w => ?_, Lib.hid rfl⟩
  all_goals rw [run_string_add_sum _ _ _ (by simp only [txt_size, List.length_append, List.length_cons, List.length_nil]; omega), txt_append]
end Go.Proofs.YtiegibgllnojcaaDoor
