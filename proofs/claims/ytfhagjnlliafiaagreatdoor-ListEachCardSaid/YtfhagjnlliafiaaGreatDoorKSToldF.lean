/-
  What stamp.noughts and zone return.
  Conditions: each fact's own.
-/
import Derived.Test.YtfhagjnlliafiaaGreatDoorKSBuild
import Derived.Test.YtfhagjnlliafiaaGreatDoorKSPads
import Derived.Test.YtfhagjnlliafiaaGreatDoorKDRefM
import Derived.Deep.RegionHeld3
set_option linter.unusedVariables false
set_option maxHeartbeats 4000000
set_option maxRecDepth 100000
namespace Go.Proofs.YtfhagjnlliafiaaGreatDoor.S
open Go.Proofs.YtfhagjnlliafiaaGreatDoor.D Go.Proofs.YtfhagjnlliafiaaGreatDoor.N
open Go.RowKit
theorem repeat_nought : ∀ n : Nat, Lib.repeatL [48] n = List.replicate n 48
  | 0 => rfl
  | n + 1 => by rw [Lib.repeatL, repeat_nought n]; rfl
theorem noughts_any (n k : Int) (w : World) (h0 : 0 ≤ n) (h1 : n < 1000) (k0 : 0 ≤ k) (k1 : k ≤ 3) (hT : Pow w) :
    Calls Tryz.prog 160 #[.int .i64 n, .int .i64 k] w fun e w' => e = .returned (.string (txt (List.replicate (k.toNat - (Lib.itoa n).length) 48 ++ Lib.itoa n))) ∧ Below w.heap.size w w' := by
  obtain ⟨l1, l2⟩ := itoa_two_len n h0 h1
  have c := dec_any n w (by omega) (by omega) hT
  rw [show (⟨(Lib.itoa n).toArray⟩ : ByteArray) = txt (Lib.itoa n) from rfl] at c
  generalize Lib.itoa n = d at *
  have hz := txt_size d
  obtain ⟨m, hm⟩ : ∃ m, k.toNat - d.length = m := ⟨_, rfl⟩
  have hm3 : m ≤ 3 := by omega
  have hc : max (k - (d.length : Int)) 0 = (m : Int) := by omega
  have hadd : ∀ w : World, (Op.stringOp .add (txt (List.replicate m 48)) (txt d)).run Tryz.prog w = .ok (.string (txt (List.replicate m 48) ++ txt d)) w := fun w => run_string_add_sum w _ _ (by rw [txt_size, txt_size, List.length_replicate]; omega)
  rw [hm]
  clear hm hT
  go_enter Tryz.func160, Tryz.ntmps160
  go_wp2_with fail
  refine c.mono ?_
  rintro e w2 ⟨rfl, hb⟩
  have HB := Lib.hid hb
  clear hb
  go_wp2_with fail
  refine (Tryz.strings_Repeat ⟨#[48]⟩ m w2 (by omega) (by show 1 * _ ≤ _; omega)).mono ?_
  rintro e w3 ⟨rfl, hb⟩
  have HB3 := Lib.hid (below_two HB.out hb)
  clear hb
  rw [show (⟨#[48]⟩ : ByteArray).data.toList = [48] from rfl, repeat_nought, show (⟨(List.replicate m 48).toArray⟩ : ByteArray) = txt (List.replicate m 48) from rfl]
  go_wp2_with fail
  go_ret
  exact ⟨ret_str (txt_append _ _), HB3.out⟩
theorem two_any (n : Int) (w : World) (h0 : 0 ≤ n) (h1 : n < 100) (hT : Pow w) :
    Calls Tryz.prog 160 #[.int .i64 n, .int .i64 2] w fun e w' => e = .returned (.string (txt (twoL n.toNat))) ∧ Below w.heap.size w w' := by
  have := noughts_any n 2 w h0 (by omega) (by omega) (by omega) hT
  rw [show (2 : Int).toNat = 2 from rfl, two_of n h0 h1] at this
  exact this
theorem three_any (n : Int) (w : World) (h0 : 0 ≤ n) (h1 : n < 1000) (hT : Pow w) :
    Calls Tryz.prog 160 #[.int .i64 n, .int .i64 3] w fun e w' => e = .returned (.string (txt (threeL n.toNat))) ∧ Below w.heap.size w w' := by
  have := noughts_any n 3 w h0 (by omega) (by omega) (by omega) hT
  rw [show (3 : Int).toNat = 3 from rfl, three_of n h0 h1] at this
  exact this
theorem zone_parts (o : Int) : ∃ m : Int, max (min (max o (-86400)) 86400) (-(min (max o (-86400)) 86400)) = m ∧ 0 ≤ m ∧ m ≤ 86400 ∧ m.toNat = (offB o).natAbs := by
  unfold offB
  refine ⟨_, rfl, ?_⟩
  split
  · omega
  · split <;> omega
theorem zone_any (o : Int) (w : World) (o1 : -9223372036854775808 ≤ o) (o2 : o ≤ 9223372036854775807) (hT : Pow w) :
    Calls Tryz.prog 161 #[.int .i64 o] w fun e w' => e = .returned (.string (txt (zoneL o))) ∧ Below w.heap.size w w' := by
  obtain ⟨m, hm, m0, m1, hn⟩ := zone_parts o
  have HT := Lib.hid hT
  have q : Int.tdiv m 60 = m / 60 := Int.tdiv_eq_ediv_of_nonneg m0
  have g1 : 0 ≤ m / 60 := by omega
  have g2 : m / 60 ≤ 1440 := by omega
  have q2 : Int.tdiv (m / 60) 60 = m / 60 / 60 := Int.tdiv_eq_ediv_of_nonneg g1
  have q3 : Int.tmod (m / 60) 60 = m / 60 % 60 := Int.tmod_eq_emod_of_nonneg g1
  have HL : Hid (∀ s : UInt8, (o < 0 → s = 45) → (¬ o < 0 → s = 43) → (⟨#[s]⟩ : ByteArray) ++ txt (twoL (m / 60 / 60).toNat) ++ txt (twoL (m / 60 % 60).toNat) = txt (zoneL o)) := Lib.hid (fun s h1 h2 => by
    unfold zoneL
    rw [show (⟨#[s]⟩ : ByteArray) = txt [s] from rfl, txt_append, txt_append, ← hn, show (m / 60 / 60).toNat = m.toNat / 3600 by omega, show (m / 60 % 60).toNat = m.toNat / 60 % 60 by omega]
    by_cases h : o < 0
    · rw [if_pos h, h1 h]; rfl
    · rw [if_neg h, h2 h]; rfl)
  have p1 : 0 ≤ m / 60 / 60 := by omega
  have p2 : m / 60 / 60 < 100 := by omega
  have p3 : 0 ≤ m / 60 % 60 := by omega
  have p4 : m / 60 % 60 < 100 := by omega
  clear hn hT
  generalize m / 60 / 60 = H at *
  generalize m / 60 % 60 = M at *
  generalize m / 60 = Z at *
  have key : ∀ s : UInt8, (∀ w : World, (Op.stringOp .add ((⟨#[s]⟩ : ByteArray)) (txt (twoL H.toNat))).run Tryz.prog w = .ok (.string ((⟨#[s]⟩ : ByteArray) ++ txt (twoL H.toNat))) w) ∧ (∀ w : World, (Op.stringOp .add ((⟨#[s]⟩ : ByteArray) ++ txt (twoL H.toNat)) (txt (twoL M.toNat))).run Tryz.prog w = .ok (.string ((⟨#[s]⟩ : ByteArray) ++ txt (twoL H.toNat) ++ txt (twoL M.toNat))) w) := fun s =>
    ⟨fun w => run_string_add_sum w _ _ (by rw [show (⟨#[s]⟩ : ByteArray) = txt [s] from rfl, txt_size, txt_size, two_len]; simp), fun w => run_string_add_sum w _ _ (by rw [show (⟨#[s]⟩ : ByteArray) = txt [s] from rfl, ByteArray.size_append, txt_size, txt_size, txt_size, two_len, two_len]; simp)⟩
  have HK := Lib.hid key
  clear key
  by_cases h : o < 0
  · obtain ⟨k1, k2⟩ := HK.out 45
    have HE := Lib.hid (HL.out 45 (fun _ => rfl) (fun n => absurd h n))
    clear HL HK
    go_enter Tryz.func161, Tryz.ntmps161
    go_wp2_with fail
    refine (two_any H w p1 p2 HT.out).mono ?_
    rintro e w2 ⟨rfl, hb⟩
    have HB := Lib.hid hb
    clear hb
    go_wp2_with fail
    refine (two_any M w2 p3 p4 (HT.out.keep HB.out)).mono ?_
    rintro e w3 ⟨rfl, hb⟩
    have HB3 := Lib.hid (below_two HB.out hb)
    clear hb
    go_wp2_with fail
    go_ret
    exact ⟨ret_str HE.out, HB3.out⟩
  · obtain ⟨k1, k2⟩ := HK.out 43
    have HE := Lib.hid (HL.out 43 (fun n => absurd n h) (fun _ => rfl))
    clear HL HK
    go_enter Tryz.func161, Tryz.ntmps161
    go_wp2_with fail
    refine (two_any H w p1 p2 HT.out).mono ?_
    rintro e w2 ⟨rfl, hb⟩
    have HB := Lib.hid hb
    clear hb
    go_wp2_with fail
    refine (two_any M w2 p3 p4 (HT.out.keep HB.out)).mono ?_
    rintro e w3 ⟨rfl, hb⟩
    have HB3 := Lib.hid (below_two HB.out hb)
    clear hb
    go_wp2_with fail
    go_ret
    exact ⟨ret_str HE.out, HB3.out⟩
end Go.Proofs.YtfhagjnlliafiaaGreatDoor.S
namespace Go.Proofs.YtfhagjnlliafiaaGreatDoor.S
open Go.Proofs.YtfhagjnlliafiaaGreatDoor.D Go.Proofs.YtfhagjnlliafiaaGreatDoor.N
open Go.RowKit
structure InTold (w : World) (t o y m d h i s wd yd : Int) (w0 : World) : Prop where
  below : Below w.heap.size w w0
  lt : w.heap.size + 1 < w0.heap.size
  ct : w0.cell? ⟨w.heap.size, 0, none⟩ = some (.int .i64 t)
  co : w0.cell? ⟨w.heap.size, 1, none⟩ = some (.int .i64 o)
  c0 : w0.cell? ⟨w.heap.size + 1, 0, none⟩ = some (.int .i64 y)
  c1 : w0.cell? ⟨w.heap.size + 1, 1, none⟩ = some (.int .i64 m)
  c2 : w0.cell? ⟨w.heap.size + 1, 2, none⟩ = some (.int .i64 d)
  c3 : w0.cell? ⟨w.heap.size + 1, 3, none⟩ = some (.int .i64 h)
  c4 : w0.cell? ⟨w.heap.size + 1, 4, none⟩ = some (.int .i64 i)
  c5 : w0.cell? ⟨w.heap.size + 1, 5, none⟩ = some (.int .i64 s)
  c6 : w0.cell? ⟨w.heap.size + 1, 6, none⟩ = some (.int .i64 wd)
  c7 : w0.cell? ⟨w.heap.size + 1, 7, none⟩ = some (.int .i64 yd)
variable {w w0 w' : World} {t o y m d h i s wd yd : Int}
theorem InTold.keep (k : InTold w t o y m d h i s wd yd w0) (hb : Below w0.heap.size w0 w') : InTold w t o y m d h i s wd yd w' := by
  have l := k.lt
  have l2 := Nat.lt_of_succ_lt l
  have hs := hb.size
  exact ⟨below_two k.below (hb.mono (Nat.le_refl _)), by omega,
    by rw [hb.cell (p := ⟨w.heap.size, 0, none⟩) l2]; exact k.ct, by rw [hb.cell (p := ⟨w.heap.size, 1, none⟩) l2]; exact k.co,
    by rw [hb.cell (p := ⟨w.heap.size + 1, 0, none⟩) l]; exact k.c0, by rw [hb.cell (p := ⟨w.heap.size + 1, 1, none⟩) l]; exact k.c1, by rw [hb.cell (p := ⟨w.heap.size + 1, 2, none⟩) l]; exact k.c2, by rw [hb.cell (p := ⟨w.heap.size + 1, 3, none⟩) l]; exact k.c3,
    by rw [hb.cell (p := ⟨w.heap.size + 1, 4, none⟩) l]; exact k.c4, by rw [hb.cell (p := ⟨w.heap.size + 1, 5, none⟩) l]; exact k.c5, by rw [hb.cell (p := ⟨w.heap.size + 1, 6, none⟩) l]; exact k.c6, by rw [hb.cell (p := ⟨w.heap.size + 1, 7, none⟩) l]; exact k.c7⟩
theorem InTold.drew (k : InTold w t o y m d h i s wd yd w0) : InTold w t o y m d h i s wd yd w0.drew :=
  ⟨k.below.trans ⟨rfl, rfl, rfl, Nat.le_refl _, fun _ _ => rfl⟩, k.lt, k.ct, k.co, k.c0, k.c1, k.c2, k.c3, k.c4, k.c5, k.c6, k.c7⟩
theorem InTold.start (w : World) (t o y m d h i s wd yd : Int) : InTold w t o y m d h i s wd yd ((w.alloc (.cells #[.int .i64 t, .int .i64 o, .int .i64 y, .int .i64 m, .int .i64 d, .int .i64 h, .int .i64 i, .int .i64 s, .int .i64 wd, .int .i64 yd] 188)).alloc (.cells #[.int .i64 y, .int .i64 m, .int .i64 d, .int .i64 h, .int .i64 i, .int .i64 s, .int .i64 wd, .int .i64 yd] 185)) := by
  refine ⟨((Below.refl _ _).alloc (Nat.le_refl _) _).alloc (by simp) _, by simp, ?_, ?_, ?_, ?_, ?_, ?_, ?_, ?_, ?_, ?_⟩
  all_goals simp [go_sem]
theorem two_from (k : InTold w t o y m d h i s wd yd w0) (n : Int) (h0 : 0 ≤ n) (h1 : n < 100) (hT : STab w) :
    Calls Tryz.prog 160 #[.int .i64 n, .int .i64 2] w0 fun e w' => e = .returned (.string (txt (twoL n.toNat))) ∧ InTold w t o y m d h i s wd yd w' := by
  refine (two_any n w0 h0 h1 (hT.pow.keep k.below)).mono ?_
  rintro e w' ⟨rfl, hb⟩
  exact ⟨rfl, k.keep hb⟩
theorem dec_from (k : InTold w t o y m d h i s wd yd w0) (n : Int) (h0 : -9223372036854775808 ≤ n) (h1 : n ≤ 9223372036854775807) (hT : STab w) :
    Calls Tryz.prog 81 #[.int .i64 n] w0 fun e w' => e = .returned (.string (txt (Lib.itoa n))) ∧ InTold w t o y m d h i s wd yd w' := by
  refine (dec_any n w0 h0 h1 (hT.pow.keep k.below)).mono ?_
  rintro e w' ⟨rfl, hb⟩
  exact ⟨rfl, k.keep hb⟩
theorem three_from (k : InTold w t o y m d h i s wd yd w0) (n : Int) (h0 : 0 ≤ n) (h1 : n < 1000) (hT : STab w) :
    Calls Tryz.prog 160 #[.int .i64 n, .int .i64 3] w0 fun e w' => e = .returned (.string (txt (threeL n.toNat))) ∧ InTold w t o y m d h i s wd yd w' := by
  refine (three_any n w0 h0 h1 (hT.pow.keep k.below)).mono ?_
  rintro e w' ⟨rfl, hb⟩
  exact ⟨rfl, k.keep hb⟩
theorem zone_from (k : InTold w t o y m d h i s wd yd w0) (h0 : -9223372036854775808 ≤ o) (h1 : o ≤ 9223372036854775807) (hT : STab w) :
    Calls Tryz.prog 161 #[.int .i64 o] w0 fun e w' => e = .returned (.string (txt (zoneL o))) ∧ InTold w t o y m d h i s wd yd w' := by
  refine (zone_any o w0 h0 h1 (hT.pow.keep k.below)).mono ?_
  rintro e w' ⟨rfl, hb⟩
  exact ⟨rfl, k.keep hb⟩
structure TellBd (t o y m d h i s wd yd : Int) : Prop where
  t0 : -9223372036854775808 ≤ t
  t1 : t ≤ 9223372036854775807
  o0 : -9223372036854775808 ≤ o
  o1 : o ≤ 9223372036854775807
  y0 : -9223372036854775808 ≤ y
  y1 : y ≤ 9223372036854775807
  m1 : 1 ≤ m
  m12 : m ≤ 12
  d1 : 1 ≤ d
  d31 : d ≤ 31
  h0 : 0 ≤ h
  h24 : h ≤ 23
  i0 : 0 ≤ i
  i60 : i ≤ 59
  s0 : 0 ≤ s
  s60 : s ≤ 59
  wd0 : 0 ≤ wd
  wd1 : wd ≤ 6
  yd1' : 1 ≤ yd
  yd366 : yd ≤ 366
theorem TellBd.m0 (B : TellBd t o y m d h i s wd yd) : 0 ≤ m := by have := B.m1; omega
theorem TellBd.mH (B : TellBd t o y m d h i s wd yd) : m < 100 := by have := B.m12; omega
theorem TellBd.d0 (B : TellBd t o y m d h i s wd yd) : 0 ≤ d := by have := B.d1; omega
theorem TellBd.dH (B : TellBd t o y m d h i s wd yd) : d < 100 := by have := B.d31; omega
theorem TellBd.hH (B : TellBd t o y m d h i s wd yd) : h < 100 := by have := B.h24; omega
theorem TellBd.iH (B : TellBd t o y m d h i s wd yd) : i < 100 := by have := B.i60; omega
theorem TellBd.sH (B : TellBd t o y m d h i s wd yd) : s < 100 := by have := B.s60; omega
theorem TellBd.yd0 (B : TellBd t o y m d h i s wd yd) : 0 ≤ yd := by have := B.yd1'; omega
theorem TellBd.yd1 (B : TellBd t o y m d h i s wd yd) : yd < 1000 := by have := B.yd366; omega
theorem blank_day {l : List UInt8} {d : Int} (h : List.replicate (2 - l.length) 32 ++ l = dayL d) (l1 : 1 ≤ l.length) (l2 : l.length ≤ 3) : blankS (lackN (l.length : Int) 2) ++ txt l = txt (dayL d) := by
  rw [← h]
  have e : lackN (l.length : Int) 2 = 2 - l.length := by unfold lackN clampZ; omega
  rw [e]
  exact txt_append _ _
theorem STab.lt (h : STab w) : 3 < w.heap.size ∧ 4 < w.heap.size := ⟨cell_lt (a := ⟨3, 0, none⟩) (h.mon 0 (by omega)), cell_lt (a := ⟨4, 0, none⟩) (h.day 0 (by omega))⟩
theorem five_add (P : Program) (a b c : List UInt8) (ha : a.length ≤ 20) (hb : b.length ≤ 20) (hc : c.length ≤ 20) (q : UInt8) : ∃ b1 b2 b3 b4 : ByteArray,
    (∀ w : World, (Op.stringOp .add (txt a) ⟨#[q]⟩).run P w = .ok (.string b1) w) ∧ (∀ w : World, (Op.stringOp .add b1 (txt b)).run P w = .ok (.string b2) w) ∧
    (∀ w : World, (Op.stringOp .add b2 ⟨#[q]⟩).run P w = .ok (.string b3) w) ∧ (∀ w : World, (Op.stringOp .add b3 (txt c)).run P w = .ok (.string b4) w) ∧ Hid (b4 = txt (a ++ [q] ++ b ++ [q] ++ c)) := by
  have e : (⟨#[q]⟩ : ByteArray) = txt [q] := rfl
  rw [e]
  refine ⟨txt (a ++ [q]), txt (a ++ [q] ++ b), txt (a ++ [q] ++ b ++ [q]), _, fun w => ?_, fun w => ?_, fun w => ?_, fun w => ?_, Lib.hid rfl⟩
  all_goals rw [run_string_add_sum _ _ _ (by simp only [txt_size, List.length_append, List.length_cons, List.length_nil]; omega), txt_append]
end Go.Proofs.YtfhagjnlliafiaaGreatDoor.S
namespace Go.Proofs.YtfhagjnlliafiaaGreatDoor.S
open Go.Proofs.YtfhagjnlliafiaaGreatDoor.D Go.Proofs.YtfhagjnlliafiaaGreatDoor.N
open Go.RowKit
theorem told_T (t o y m d h i s wd yd : Int) (B : TellBd t o y m d h i s wd yd) (dir : ByteArray) (hz : 1 < dir.size) (w : World) (hT : STab w) (hc : (dir[1]'hz).toNat = 84) :
    Calls Tryz.prog 135 #[.agg #[.int .i64 t, .int .i64 o, .int .i64 y, .int .i64 m, .int .i64 d, .int .i64 h, .int .i64 i, .int .i64 s, .int .i64 wd, .int .i64 yd], .string dir] w fun e w' => e = .returned (.string (txt (twoL h.toNat ++ [58] ++ twoL i.toNat ++ [58] ++ twoL s.toNat))) ∧ Below w.heap.size w w' := by
  have HT := Lib.hid hT
  have HK := Lib.hid (InTold.start w t o y m d h i s wd yd)
  have BB := Lib.hid B
  clear hT B
  have h0 := BB.out.h0
  have hH := BB.out.hH
  have i0 := BB.out.i0
  have iH := BB.out.iH
  have s0 := BB.out.s0
  have sH := BB.out.sH
  obtain ⟨b1, b2, b3, b4, a1, a2, a3, a4, HE⟩ := five_add Tryz.prog (twoL h.toNat) (twoL i.toNat) (twoL s.toNat) (by rw [two_len]; omega) (by rw [two_len]; omega) (by rw [two_len]; omega) 58
  go_enter Tryz.func135, Tryz.ntmps135
  go_wp2_with fail
  have hk := HK.out
  clear HK
  go_region_held3 (fun w' => InTold w t o y m d h i s wd yd w' ∧ w'.cell? ⟨w.heap.size + 1, 3, none⟩ = some (.int .i64 h) ∧ w'.cell? ⟨w.heap.size + 1, 4, none⟩ = some (.int .i64 i) ∧ w'.cell? ⟨w.heap.size + 1, 5, none⟩ = some (.int .i64 s)) (first | exact ⟨hk, hk.c3, hk.c4, hk.c5⟩ | exact ⟨hk.drew, hk.c3, hk.c4, hk.c5⟩) (first | (go_at_call 160; refine (two_from (And.left (by assumption)) _ (by assumption) (by assumption) HT.out).mono ?_; rintro e w3 ⟨rfl, hk⟩))
  go_wp2_with fail
  go_ret
  exact ⟨ret_str HE.out, hk.below⟩
theorem told_F (t o y m d h i s wd yd : Int) (B : TellBd t o y m d h i s wd yd) (dir : ByteArray) (hz : 1 < dir.size) (w : World) (hT : STab w) (hc : (dir[1]'hz).toNat = 70) :
    Calls Tryz.prog 135 #[.agg #[.int .i64 t, .int .i64 o, .int .i64 y, .int .i64 m, .int .i64 d, .int .i64 h, .int .i64 i, .int .i64 s, .int .i64 wd, .int .i64 yd], .string dir] w fun e w' => e = .returned (.string (txt (Lib.itoa y ++ [45] ++ twoL m.toNat ++ [45] ++ twoL d.toNat))) ∧ Below w.heap.size w w' := by
  have HT := Lib.hid hT
  have HK := Lib.hid (InTold.start w t o y m d h i s wd yd)
  have BB := Lib.hid B
  clear hT B
  have y0 := BB.out.y0
  have y1 := BB.out.y1
  have m0 := BB.out.m0
  have mH := BB.out.mH
  have d0 := BB.out.d0
  have dH := BB.out.dH
  obtain ⟨b1, b2, b3, b4, a1, a2, a3, a4, HE⟩ := five_add Tryz.prog (Lib.itoa y) (twoL m.toNat) (twoL d.toNat) (itoa_len y y0 y1) (by rw [two_len]; omega) (by rw [two_len]; omega) 45
  go_enter Tryz.func135, Tryz.ntmps135
  go_wp2_with fail
  have hk := HK.out
  clear HK
  go_region_held3 (fun w' => InTold w t o y m d h i s wd yd w' ∧ w'.cell? ⟨w.heap.size + 1, 0, none⟩ = some (.int .i64 y) ∧ w'.cell? ⟨w.heap.size + 1, 1, none⟩ = some (.int .i64 m) ∧ w'.cell? ⟨w.heap.size + 1, 2, none⟩ = some (.int .i64 d)) (first | exact ⟨hk, hk.c0, hk.c1, hk.c2⟩ | exact ⟨hk.drew, hk.c0, hk.c1, hk.c2⟩) (first | (go_at_call 160; refine (two_from (And.left (by assumption)) _ (by assumption) (by assumption) HT.out).mono ?_; rintro e w3 ⟨rfl, hk⟩) | (go_at_call 81; refine (dec_from (And.left (by assumption)) _ (by assumption) (by assumption) HT.out).mono ?_; rintro e w3 ⟨rfl, hk⟩))
  go_wp2_with fail
  go_ret
  exact ⟨ret_str HE.out, hk.below⟩
end Go.Proofs.YtfhagjnlliafiaaGreatDoor.S
