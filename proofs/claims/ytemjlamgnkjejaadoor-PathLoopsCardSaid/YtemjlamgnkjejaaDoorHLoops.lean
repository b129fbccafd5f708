/-
  That the law PathLoops returns true. Conditions: the table of classes lies as its text lays it.
-/
import Derived.Test.YtemjlamgnkjejaaDoorHLoopsM
import Derived.Test.YtemjlamgnkjejaaDoorVDevM
set_option linter.unusedVariables false
namespace Go.Proofs.YtemjlamgnkjejaaDoor
open Go.RowKit

set_option maxRecDepth 100000 in
theorem hawake_any (w : World) :
    Calls Tryd.prog 6 #[] w fun e w' => e = .returned (.bool true) ∧ Below w.heap.size w w' := by
  have HN := Lib.hid (names_any ⟨#[47, 97, 47, 47, 98, 47]⟩ w (by decide))
  have e1 : (namesL ⟨#[47, 97, 47, 47, 98, 47]⟩).length = 2 := by decide +kernel
  have e2 : beginsB ⟨#[47, 97, 47, 47, 98, 47]⟩ = true := by decide +kernel
  have e3 : endsB ⟨#[47, 97, 47, 47, 98, 47]⟩ = true := by decide +kernel
  rw [e1, e2, e3] at HN
  clear e1 e2 e3
  go_enter Tryd.func6, Tryd.ntmps6
  go_wp2_with (go_at_call 16; refine HN.out.mono ?_; rintro e w2 ⟨A, rfl, hA, hown, hb⟩; have HB := Lib.hid hb; clear hown hb)
  go_ret
  exact ⟨rfl, HB.out⟩

theorem conv_one {w : World} {i : Nat} (hi : i < 10) :
    (convert 80 9 (.slice (some ⟨w.heap.size, 0, none⟩) 1 1)).run Tryd.prog (w.alloc (.cells #[.int .u8 (48 + (i : Int))] 5)) = .ok (.string ⟨#[UInt8.ofNat (48 + i)]⟩) (w.alloc (.cells #[.int .u8 (48 + (i : Int))] 5)) := by
  have h := run_convert_bytes_back (P := Tryd.prog) (w.alloc (.cells #[.int .u8 (48 + (i : Int))] 5)) 80 9 5 ⟨w.heap.size, 0, none⟩ 1 [UInt8.ofNat (48 + i)] Tryd.underlying80 Tryd.underlying5 Tryd.underlying9 (fun j hj => by
    rw [World.news_of_block (heap_alloc_new _ _) j (.int .u8 (([UInt8.ofNat (48 + i)][j]'hj).toNat : Int))]
    have hj2 : j < 1 := hj
    match j, hj2 with
    | 0, _ => simp only [List.getElem_cons_zero, UInt8.toNat_ofNat']; show some (Value.int .u8 _) = _; congr 2; omega)
  exact h
theorem conv_two {w : World} {i : Nat} (hi : i < 60) :
    (convert 80 9 (.slice (some ⟨w.heap.size, 0, none⟩) 2 2)).run Tryd.prog (w.alloc (.cells #[.int .u8 (48 + (i : Int) / 10), .int .u8 (48 + (i : Int) % 10)] 5)) = .ok (.string ⟨#[UInt8.ofNat (48 + i / 10), UInt8.ofNat (48 + i % 10)]⟩) (w.alloc (.cells #[.int .u8 (48 + (i : Int) / 10), .int .u8 (48 + (i : Int) % 10)] 5)) := by
  have h := run_convert_bytes_back (P := Tryd.prog) (w.alloc (.cells #[.int .u8 (48 + (i : Int) / 10), .int .u8 (48 + (i : Int) % 10)] 5)) 80 9 5 ⟨w.heap.size, 0, none⟩ 2 [UInt8.ofNat (48 + i / 10), UInt8.ofNat (48 + i % 10)] Tryd.underlying80 Tryd.underlying5 Tryd.underlying9 (fun j hj => by
    rw [World.news_of_block (heap_alloc_new _ _) j (.int .u8 (([UInt8.ofNat (48 + i / 10), UInt8.ofNat (48 + i % 10)][j]'hj).toNat : Int))]
    have hj2 : j < 2 := hj
    match j, hj2 with
    | 0, _ => simp only [List.getElem_cons_zero, UInt8.toNat_ofNat']; show some (Value.int .u8 _) = _; congr 2; omega
    | 1, _ => simp only [List.getElem_cons_succ, List.getElem_cons_zero, UInt8.toNat_ofNat']; show some (Value.int .u8 _) = _; congr 2; omega)
  exact h
theorem ret_str {a b : ByteArray} (h : a = b) : Ending.returned (.string a) = .returned (.string b) := by rw [h]
set_option maxRecDepth 100000 in
theorem nm_any (i : Nat) (w : World) (h : i < 60) :
    Calls Tryd.prog 15 #[.int .i64 (i : Int)] w fun e w' => e = .returned (.string (nm i)) ∧ Below w.heap.size w w' := by
  by_cases h1 : i < 10
  · have d1 : decide ((i : Int) < 10) = true := decide_eq_true (by omega)
    have hc := conv_one (w := w) h1
    have HN := Lib.hid (show nm i = ⟨#[108, UInt8.ofNat (48 + i)]⟩ from by unfold nm; rw [if_pos h1])
    go_enter Tryd.func15, Tryd.ntmps15
    go_wp2
    go_ret
    exact ⟨ret_str (by rw [HN.out]; first | rfl | (apply ByteArray.ext; simp)), (Below.refl _ _).alloc (Nat.le_refl _) _⟩
  · have d1 : decide ((i : Int) < 10) = false := decide_eq_false (by omega)
    have hc := conv_two (w := w) h
    have HN := Lib.hid (show nm i = ⟨#[108, UInt8.ofNat (48 + i / 10), UInt8.ofNat (48 + i % 10)]⟩ from by unfold nm; rw [if_neg h1])
    go_enter Tryd.func15, Tryd.ntmps15
    go_wp2
    go_ret
    exact ⟨ret_str (by rw [HN.out]; first | rfl | (apply ByteArray.ext; simp)), (Below.refl _ _).alloc (Nat.le_refl _) _⟩

def LoopRel (k p : Nat) (W : World) (v : Value) (wr : World) : Prop := ∃ j : Nat, j ≤ k ∧ v = .int .i64 ((j : Int) + 1) ∧ Hid (Has W p (loopM j) wr)
set_option maxRecDepth 100000 in
set_option maxHeartbeats 8000000 in
theorem loops_any (n : Int) (w : World) (ht : Tab w) (h0 : 0 ≤ n) (h1 : n < 256) :
    Calls Tryd.prog 5 #[.int .u8 n] w fun e w' => e = .returned (.bool true) ∧ Below w.heap.size w w' := by
  obtain ⟨k, hk, hk6⟩ : ∃ k : Nat, n % 60 = (k : Int) ∧ k < 60 := ⟨(n % 60).toNat, by omega, by omega⟩
  have HT := Lib.hid ht
  clear ht
  go_enter Tryd.func5, Tryd.ntmps5
  go_wp2_with fail
  refine (hawake_any _).mono ?_
  rintro e w2 ⟨rfl, hb⟩
  have HB2 := Lib.hid hb
  clear hb
  go_wp2_with fail
  refine (new_any _).mono ?_
  rintro e w3 ⟨p, rfl, H3⟩
  have HH := Lib.hid H3
  clear H3
  go_wp2_with fail
  refine (has_do (c := chgF) HH.out new_small (by decide) (by decide) (by decide)).mono ?_
  rintro e w4 ⟨rfl, H4⟩
  have HH4 := Lib.hid H4
  clear H4
  go_wp2_with fail
  go_loopw [5] (LoopRel k p w2) (fun v _ => (k + 1 - intOf v).toNat)
  case atStart => exact ⟨0, Nat.zero_le _, rfl, HH4⟩
  case round =>
    obtain ⟨j, hj, rfl, HF⟩ := hrel
    by_cases hlt : j < k
    · have d1 : decide ((j : Int) + 1 ≤ (k : Int)) = true := decide_eq_true (by omega)
      have HN1 := Lib.hid (fun W => nm_any (j + 1) W (by omega))
      have HN0 := Lib.hid (fun W => nm_any j W (by omega))
      rw [show ((j + 1 : Nat) : Int) = (j : Int) + 1 from by omega] at HN1
      have HD := Lib.hid (fun W (hW : Has w2 p (loopM j) W) => has_do (c := chgK (j + 1)) hW (loop_small j) (by omega) (loop_pos j) ⟨show (-9223372036854775808 : Int) ≤ 0 by omega, show (0 : Int) ≤ 9223372036854775807 by omega⟩)
      unfold chgV chgK at HD
      rw [show j + 1 - 1 = j from by omega] at HD
      go_wp2_with fail
      refine (HN1.out _).mono ?_
      rintro e w5 ⟨rfl, hb⟩
      have HF5 := Lib.hid (HF.out.keep hb)
      clear hb
      go_wp2_with fail
      refine (HN0.out _).mono ?_
      rintro e w6 ⟨rfl, hb⟩
      have HF6 := Lib.hid (HF5.out.keep hb)
      clear hb
      go_wp2_with fail
      refine (HD.out _ HF6.out).mono ?_
      rintro e w7 ⟨rfl, H7⟩
      have HF7 := Lib.hid (show Has w2 p (loopM (j + 1)) w7 from H7)
      clear H7
      go_wp2_with fail
      go_roundw
      case rel => exact ⟨j + 1, by omega, by simp, HF7⟩
      case measure => simp [intOf]; omega
    · have d1 : decide ((j : Int) + 1 ≤ (k : Int)) = false := decide_eq_false (by omega)
      obtain rfl : j = k := by omega
      have HNk := Lib.hid (fun W => nm_any j W hk6)
      have hok := ok_at hk6
      have HWk := Lib.hid (fun W (hW : Has w2 p (loopM j) W) (hT : Tab W) => walk_any (u := 0) (g := 0) (follow := true) (nm j) w2 W hW hT (loop_pos j) (small_fewE' (loop_small j) (by omega)) (tgt_link (loop_tgt j)) (by have := nm_size j; omega))
      unfold loopOk at hok
      obtain ⟨r, hr⟩ : ∃ r, walkW (loopM j) 0 0 (nm j) true = r := ⟨_, rfl⟩
      rw [hr] at hok HWk
      clear hr
      obtain ⟨err, ⟨id, dir, nx⟩, hops⟩ := r
      unfold resV plV credV at HWk
      by_cases h40 : 40 < j
      · have d40 : decide ((40 : Int) < (j : Int)) = true := decide_eq_true (by omega)
        simp only [if_pos h40, Bool.and_eq_true, beq_iff_eq] at hok
        obtain ⟨rfl, rfl, rfl, rfl, hnx⟩ := hok
        obtain rfl : nx = ⟨#[]⟩ := ByteArray.ext hnx
        go_wp2_with fail
        refine (HNk.out _).mono ?_
        rintro e w5 ⟨rfl, hb⟩
        have HF5 := Lib.hid (HF.out.keep hb)
        clear hb
        go_wp2_with fail
        refine (HWk.out _ HF5.out (HT.out.keep (below_two HB2.out HF5.out.below))).mono ?_
        rintro e w6 ⟨rfl, hb⟩
        have HB6 := Lib.hid (below_two (below_two HB2.out HF5.out.below) hb)
        clear hb
        go_wp2_with fail
        go_ret
        exact ⟨rfl, HB6.out.alloc HB6.out.size _⟩
      · have d40 : decide ((40 : Int) < (j : Int)) = false := decide_eq_false (by omega)
        simp only [if_neg h40, Bool.and_eq_true, beq_iff_eq] at hok
        obtain ⟨rfl, rfl, rfl, hnx⟩ := hok
        obtain rfl : nx = ⟨#[108, 48]⟩ := ByteArray.ext hnx
        go_wp2_with fail
        refine (HNk.out _).mono ?_
        rintro e w5 ⟨rfl, hb⟩
        have HF5 := Lib.hid (HF.out.keep hb)
        clear hb
        go_wp2_with fail
        refine (HWk.out _ HF5.out (HT.out.keep (below_two HB2.out HF5.out.below))).mono ?_
        rintro e w6 ⟨rfl, hb⟩
        have HB6 := Lib.hid (below_two (below_two HB2.out HF5.out.below) hb)
        clear hb
        go_wp2_with fail
        go_ret
        exact ⟨rfl, HB6.out.alloc HB6.out.size _⟩
end Go.Proofs.YtemjlamgnkjejaaDoor
