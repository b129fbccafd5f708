/-
  What stamp.noughts and zone return: a number in two digits, or in three; an offset in hours and minutes. Conditions: the number is below 1000; the library's tables lie as their text lays them.
-/
import Derived.Test.YtiegibgllnojcaaDoorSBuild
import Derived.Test.YtiegibgllnojcaaDoorSPads
namespace Go.Proofs.YtiegibgllnojcaaDoor
open Go.RowKit

theorem repeat_nought : ∀ n : Nat, Lib.repeatL [48] n = List.replicate n 48
  | 0 => rfl
  | n + 1 => by rw [Lib.repeatL, repeat_nought n]; rfl

set_option maxHeartbeats 1000000 in
theorem noughts_any (n k : Int) (w : World) (h0 : 0 ≤ n) (h1 : n < 1000) (k0 : 0 ≤ k) (k1 : k ≤ 3) (hT : Pow w) :
    Calls Tryd.prog 31 #[.int .i64 n, .int .i64 k] w fun e w' => e = .returned (.string (txt (List.replicate (k.toNat - (Lib.itoa n).length) 48 ++ Lib.itoa n))) ∧ Below w.heap.size w w' := by
  obtain ⟨l1, l2⟩ := itoa_two_len n h0 h1
  have c := dec_any n w (by omega) (by omega) hT
  rw [show (⟨(Lib.itoa n).toArray⟩ : ByteArray) = txt (Lib.itoa n) from rfl] at c
  generalize Lib.itoa n = d at *
  have hz := txt_size d
  obtain ⟨m, hm⟩ : ∃ m, k.toNat - d.length = m := ⟨_, rfl⟩
  have hm3 : m ≤ 3 := by omega
  have hc : max (k - (d.length : Int)) 0 = (m : Int) := by omega
  have hadd : ∀ w : World, (Op.stringOp .add (txt (List.replicate m 48)) (txt d)).run Tryd.prog w = .ok (.string (txt (List.replicate m 48) ++ txt d)) w := fun w => run_string_add_sum w _ _ (by rw [txt_size, txt_size, List.length_replicate]; omega)
  rw [hm]
  clear hm hT
  go_enter Tryd.func31, Tryd.ntmps31
  go_wp2_with fail
  refine c.mono ?_
  rintro e w2 ⟨rfl, hb⟩
  have HB := Lib.hid hb
  clear hb
  go_wp2_with fail
  refine (Tryd.strings_Repeat ⟨#[48]⟩ m w2 (by omega) (by show 1 * _ ≤ _; omega)).mono ?_
  rintro e w3 ⟨rfl, hb⟩
  have HB3 := Lib.hid (below_two HB.out hb)
  clear hb
  rw [show (⟨#[48]⟩ : ByteArray).data.toList = [48] from rfl, repeat_nought, show (⟨(List.replicate m 48).toArray⟩ : ByteArray) = txt (List.replicate m 48) from rfl]
  go_wp2_with fail
  go_ret
  exact ⟨ret_str (txt_append _ _), HB3.out⟩

theorem two_any (n : Int) (w : World) (h0 : 0 ≤ n) (h1 : n < 100) (hT : Pow w) :
    Calls Tryd.prog 31 #[.int .i64 n, .int .i64 2] w fun e w' => e = .returned (.string (txt (twoL n.toNat))) ∧ Below w.heap.size w w' := by
  have := noughts_any n 2 w h0 (by omega) (by omega) (by omega) hT
  rw [show (2 : Int).toNat = 2 from rfl, two_of n h0 h1] at this
  exact this
theorem three_any (n : Int) (w : World) (h0 : 0 ≤ n) (h1 : n < 1000) (hT : Pow w) :
    Calls Tryd.prog 31 #[.int .i64 n, .int .i64 3] w fun e w' => e = .returned (.string (txt (threeL n.toNat))) ∧ Below w.heap.size w w' := by
  have := noughts_any n 3 w h0 (by omega) (by omega) (by omega) hT
  rw [show (3 : Int).toNat = 3 from rfl, three_of n h0 h1] at this
  exact this

/-- An offset's parts. -/
theorem zone_parts (o : Int) : ∃ m : Int, max (min (max o (-86400)) 86400) (-(min (max o (-86400)) 86400)) = m ∧ 0 ≤ m ∧ m ≤ 86400 ∧ m.toNat = (offB o).natAbs := by
  unfold offB
  refine ⟨_, rfl, ?_⟩
  split
  · omega
  · split <;> omega

set_option maxHeartbeats 1000000 in
theorem zone_any (o : Int) (w : World) (o1 : -9223372036854775808 ≤ o) (o2 : o ≤ 9223372036854775807) (hT : Pow w) :
    Calls Tryd.prog 33 #[.int .i64 o] w fun e w' => e = .returned (.string (txt (zoneL o))) ∧ Below w.heap.size w w' := by
  obtain ⟨m, hm, m0, m1, hn⟩ := zone_parts o
  have HT := Lib.hid hT
  have q : Int.tdiv m 60 = m / 60 := Int.tdiv_eq_ediv_of_nonneg m0
  have g1 : 0 ≤ m / 60 := by omega
  have g2 : m / 60 ≤ 1440 := by omega
  have q2 : Int.tdiv (m / 60) 60 = m / 60 / 60 := Int.tdiv_eq_ediv_of_nonneg g1
  have q3 : Int.tmod (m / 60) 60 = m / 60 % 60 := Int.tmod_eq_emod_of_nonneg g1
  have HL : Hid (∀ s : UInt8, (o < 0 → s = 45) → (¬ o < 0 → s = 43) → (⟨#[s]⟩ : ByteArray) ++ txt (twoL (m / 60 / 60).toNat) ++ txt (twoL (m / 60 % 60).toNat) = txt (zoneL o)) := Lib.hid (fun s h1 h2 => by
    unfold zoneL
    rw [show (⟨#[s]⟩ : ByteArray) = txt [s] from rfl, txt_append, txt_append, ← hn, show (m / 60 / 60).toNat = m.toNat / 3600 by omega, show (m / 60 % 60).toNat = m.toNat / 60 % 60 by omega]
    by_cases h : o < 0
    · rw [if_pos h, h1 h]; rfl
    · rw [if_neg h, h2 h]; rfl)
  have p1 : 0 ≤ m / 60 / 60 := by omega
  have p2 : m / 60 / 60 < 100 := by omega
  have p3 : 0 ≤ m / 60 % 60 := by omega
  have p4 : m / 60 % 60 < 100 := by omega
  clear hn hT
  generalize m / 60 / 60 = H at *
  generalize m / 60 % 60 = M at *
  generalize m / 60 = Z at *
  have key : ∀ s : UInt8, (∀ w : World, (Op.stringOp .add ((⟨#[s]⟩ : ByteArray)) (txt (twoL H.toNat))).run Tryd.prog w = .ok (.string ((⟨#[s]⟩ : ByteArray) ++ txt (twoL H.toNat))) w) ∧ (∀ w : World, (Op.stringOp .add ((⟨#[s]⟩ : ByteArray) ++ txt (twoL H.toNat)) (txt (twoL M.toNat))).run Tryd.prog w = .ok (.string ((⟨#[s]⟩ : ByteArray) ++ txt (twoL H.toNat) ++ txt (twoL M.toNat))) w) := fun s =>
    ⟨fun w => run_string_add_sum w _ _ (by rw [show (⟨#[s]⟩ : ByteArray) = txt [s] from rfl, txt_size, txt_size, two_len]; simp), fun w => run_string_add_sum w _ _ (by rw [show (⟨#[s]⟩ : ByteArray) = txt [s] from rfl, ByteArray.size_append, txt_size, txt_size, txt_size, two_len, two_len]; simp)⟩
  have HK := Lib.hid key
  clear key
  by_cases h : o < 0
  · obtain ⟨k1, k2⟩ := HK.out 45
    have HE := Lib.hid (HL.out 45 (fun _ => rfl) (fun n => absurd h n))
    clear HL HK
    go_enter Tryd.func33, Tryd.ntmps33
    go_wp2_with fail
    refine (two_any H w p1 p2 HT.out).mono ?_
    rintro e w2 ⟨rfl, hb⟩
    have HB := Lib.hid hb
    clear hb
    go_wp2_with fail
    refine (two_any M w2 p3 p4 (HT.out.keep HB.out)).mono ?_
    rintro e w3 ⟨rfl, hb⟩
    have HB3 := Lib.hid (below_two HB.out hb)
    clear hb
    go_wp2_with fail
    go_ret
    exact ⟨ret_str HE.out, HB3.out⟩
  · obtain ⟨k1, k2⟩ := HK.out 43
    have HE := Lib.hid (HL.out 43 (fun n => absurd n h) (fun _ => rfl))
    clear HL HK
    go_enter Tryd.func33, Tryd.ntmps33
    go_wp2_with fail
    refine (two_any H w p1 p2 HT.out).mono ?_
    rintro e w2 ⟨rfl, hb⟩
    have HB := Lib.hid hb
    clear hb
    go_wp2_with fail
    refine (two_any M w2 p3 p4 (HT.out.keep HB.out)).mono ?_
    rintro e w3 ⟨rfl, hb⟩
    have HB3 := Lib.hid (below_two HB.out hb)
    clear hb
    go_wp2_with fail
    go_ret
    exact ⟨ret_str HE.out, HB3.out⟩
end Go.Proofs.YtiegibgllnojcaaDoor
