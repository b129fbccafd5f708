/-
  That the law VfsMany returns true. Conditions: the numbers that came in lie in memory.
-/
import Derived.Test.YtehieipiagpehaaVManyM
import Derived.Test.YtehieipiagpehaaVNode
set_option linter.unusedVariables false
namespace Go.Proofs.Ytehieipiagpehaa
open Go.RowKit

theorem blk_add (a : Addr) (i : Nat) : (a.add i).block = a.block := by unfold Addr.add; split <;> rfl
theorem conv_name {w : World} {i r q : Nat} (hi : i < 320) (hr : r = i % 26) (hq : q = i / 26) :
    (convert 46 9 (.slice (some ⟨w.heap.size, 0, none⟩) 2 2)).run Try.prog (w.alloc (.cells #[.int .u8 (97 + (r : Int)), .int .u8 (97 + (q : Int))] 5)) = .ok (.string (nameT i)) (w.alloc (.cells #[.int .u8 (97 + (r : Int)), .int .u8 (97 + (q : Int))] 5)) := by
  subst hr hq
  have h := run_convert_bytes_back (P := Try.prog) (w.alloc (.cells #[.int .u8 (97 + ((i % 26 : Nat) : Int)), .int .u8 (97 + ((i / 26 : Nat) : Int))] 5)) 46 9 5 ⟨w.heap.size, 0, none⟩ 2 [UInt8.ofNat (97 + i % 26), UInt8.ofNat (97 + i / 26)] Try.underlying46 Try.underlying5 Try.underlying9 (fun j hj => by
    rw [World.news_of_block (heap_alloc_new _ _) j (.int .u8 (([UInt8.ofNat (97 + i % 26), UInt8.ofNat (97 + i / 26)][j]'hj).toNat : Int))]
    have hj2 : j < 2 := hj
    match j, hj2 with
    | 0, _ => simp only [List.getElem_cons_zero, UInt8.toNat_ofNat']; show some (Value.int .u8 _) = _; congr 2; omega
    | 1, _ => simp only [List.getElem_cons_succ, List.getElem_cons_zero, UInt8.toNat_ofNat']; show some (Value.int .u8 _) = _; congr 2; omega)
  exact h

def ManyRel (K : Int) (p : Nat) (w0 : World) (v : Value) (wr : World) : Prop := ∃ (i m : Nat) (M : List Nd), i ≤ 320 ∧ v = .int .i64 (i : Int) ∧ m = min i 299 ∧ Row K m M ∧ Has w0 p M wr

/-- The root's facts. -/
theorem has_root {w0 w : World} {p : Nat} {n : Nd} {r : List Nd} (h : Has w0 p (n :: r) w) :
    Calls Try.prog 17 #[.pointer (some ⟨p, 0, none⟩), .int .i64 0] w fun e w' => e = .returned (.tuple #[knownV n, .int .i64 0]) ∧ Below w.heap.size w w' := by
  obtain ⟨h, rfl, hM, H, hb, hf⟩ := h
  obtain ⟨x, hx, hxn⟩ := fs_at (h := h) (k := 0) (n := n) (by rw [hM]; rfl)
  subst hxn
  exact node_get h 0 x w H hx

set_option maxRecDepth 100000 in
set_option maxHeartbeats 4000000 in
theorem many_any (d : Bool) (so : Option Addr) (len cap : Nat) (zs : List Int) (w : World) (hlen : len ≤ 9223372036854775807) (hz : ∀ i, i < len → ∃ a : Addr, so = some a ∧ a.block < w.heap.size ∧ w.cell? (a.add i) = some (.int .u32 (zs.getD i 0)) ∧ 0 ≤ zs.getD i 0 ∧ zs.getD i 0 ≤ 4294967295) :
    Calls Try.prog 5 #[.bool d, .slice so len cap] w fun e w' => e = .returned (.bool true) ∧ Below w.heap.size w w' := by
  by_cases h4 : 400 < len
  · have d4 : decide ((400 : Int) < (len : Int)) = true := decide_eq_true (by omega)
    clear hz
    go_enter Try.func5, Try.ntmps5
    go_wp2_with fail
    refine (awake_any _).mono ?_
    rintro e w2 ⟨rfl, hb⟩
    have HB := Lib.hid hb
    clear hb
    go_wp2_with fail
    refine (awake_any _).mono ?_
    rintro e w3 ⟨rfl, hb⟩
    have HB3 := Lib.hid (below_two HB.out hb)
    clear hb
    go_wp2_with fail
    go_ret
    exact ⟨rfl, HB3.out⟩
  · have d4 : decide ((400 : Int) < (len : Int)) = false := decide_eq_false (by omega)
    have HZ := Lib.hid hz
    clear hz
    cases d with
    | false =>
      go_enter Try.func5, Try.ntmps5
      go_wp2_with fail
      refine (awake_any _).mono ?_
      rintro e w2 ⟨rfl, hb⟩
      have HB := Lib.hid hb
      clear hb
      go_wp2_with fail
      refine (new_any _).mono ?_
      rintro e w3 ⟨p, rfl, H3⟩
      have HH := Lib.hid H3
      clear H3
      go_wp2_with fail
      go_loopw [7] (ManyRel 1 p w2) (fun v _ => 320 - (intOf v).toNat)
      case atStart => exact ⟨0, 0, newM, by omega, rfl, by omega, row_new 1, HH.out⟩
      case round =>
        obtain ⟨i, m, M, hi, rfl, hm, hrow, hhas⟩ := hrel
        have HR := Lib.hid hrow
        have HF := Lib.hid hhas
        clear hrow hhas
        by_cases hlt : i < 320
        · obtain ⟨r, hr, r1⟩ : ∃ r : Nat, Int.tmod (i : Int) 26 = (r : Int) ∧ r = i % 26 := ⟨i % 26, by rw [(quo_rem (i : Int) 26 (by omega)).2]; omega, rfl⟩
          obtain ⟨q, hq, q1⟩ : ∃ q : Nat, Int.tdiv (i : Int) 26 = (q : Int) ∧ q = i / 26 := ⟨i / 26, by rw [(quo_rem (i : Int) 26 (by omega)).1]; omega, rfl⟩
          have r2 : (r : Int) < 26 := by omega
          have q2 : (q : Int) ≤ 12 := by omega
          have hconv := conv_name (w := wr) hlt r1 q1
          have HM := Lib.hid hm
          have HSM := Lib.hid (row_small HR.out (by omega))
          have HLN := Lib.hid (row_len HR.out)
          clear r1 q1
          by_cases hl : i < len
          · obtain ⟨a, hso, hbl, hcell, z0, z1⟩ := HZ.out i hl
            subst hso
            have hcr : wr.cell? (a.add i) = some (.int .u32 (zs.getD i 0)) := by
              rw [(HB.out.trans (HF.out.below.mono HB.out.size)).cell (p := a.add i) (by rw [blk_add]; exact hbl)]
              exact hcell
            generalize zs.getD i 0 = z at *
            clear hcell
            by_cases h9 : i < 299
            · obtain ⟨e1, e2, e3⟩ := row_more (n := z) HR.out (.inr rfl) hlt z0 (by omega) (by omega)
              have E1 := Lib.hid e1
              have E2 := Lib.hid e2
              have E3 := Lib.hid e3
              have HCV := Lib.hid (show chgV (rowC 1 i z) = .agg #[.int .i64 1, .int .i64 0, .int .i64 0, .string (nameT i), .string ⟨#[]⟩, .int .i64 420, .int .i64 0, .int .i64 z] from rfl)
              have HD := Lib.hid (fun (W : World) (hw : Has w2 p M W) => has_do (c := rowC 1 i z) hw HSM.out (by omega) (by rw [HLN.out]; omega) (by show -9223372036854775808 ≤ z ∧ z ≤ 9223372036854775807; omega))
              clear e1 e2 e3 hm
              go_wp2_with (go_at_call 12; rw [← HCV.out]; refine (HD.out _ (HF.out.keep ((Below.refl _ _).alloc (Nat.le_refl _) _))).mono ?_; rintro e w4 ⟨rfl, H4⟩; rw [E1.out, E2.out]; have H4H := Lib.hid H4; clear H4)
              go_roundw
              case rel => exact ⟨i + 1, i + 1, _, by omega, by simp, by omega, E3.out, H4H.out⟩
              case measure => simp [intOf]; omega
            · obtain ⟨e1, e2, e3⟩ := row_full (n := z) (show Row 1 299 M from by have := HR.out; rw [show m = 299 by omega] at this; exact this) (.inr rfl) hlt z0 (by omega)
              have E1 := Lib.hid e1
              have E2 := Lib.hid e2
              have E3 := Lib.hid e3
              have HCV := Lib.hid (show chgV (rowC 1 i z) = .agg #[.int .i64 1, .int .i64 0, .int .i64 0, .string (nameT i), .string ⟨#[]⟩, .int .i64 420, .int .i64 0, .int .i64 z] from rfl)
              have HD := Lib.hid (fun (W : World) (hw : Has w2 p M W) => has_do (c := rowC 1 i z) hw HSM.out (by omega) (by rw [HLN.out]; omega) (by show -9223372036854775808 ≤ z ∧ z ≤ 9223372036854775807; omega))
              clear e1 e2 e3 hm
              go_wp2_with (go_at_call 12; rw [← HCV.out]; refine (HD.out _ (HF.out.keep ((Below.refl _ _).alloc (Nat.le_refl _) _))).mono ?_; rintro e w4 ⟨rfl, H4⟩; rw [E1.out, E2.out]; have H4H := Lib.hid H4; clear H4)
              go_roundw
              case rel => exact ⟨i + 1, 299, M, by omega, by simp, by omega, by have := HR.out; rw [show m = 299 by have := HM.out; omega] at this; exact this, by have := H4H.out; rw [E3.out] at this; exact this⟩
              case measure => simp [intOf]; omega

          · have dl : decide ((i : Int) < (len : Int)) = false := decide_eq_false (by omega)
            by_cases h9 : i < 299
            · obtain ⟨e1, e2, e3⟩ := row_more (n := 0) HR.out (.inr rfl) hlt (by omega) (by omega) (by omega)
              have E1 := Lib.hid e1
              have E2 := Lib.hid e2
              have E3 := Lib.hid e3
              have HCV := Lib.hid (show chgV (rowC 1 i 0) = .agg #[.int .i64 1, .int .i64 0, .int .i64 0, .string (nameT i), .string ⟨#[]⟩, .int .i64 420, .int .i64 0, .int .i64 0] from rfl)
              have HD := Lib.hid (fun (W : World) (hw : Has w2 p M W) => has_do (c := rowC 1 i 0) hw HSM.out (by omega) (by rw [HLN.out]; omega) (by show -9223372036854775808 ≤ 0 ∧ 0 ≤ 9223372036854775807; omega))
              clear e1 e2 e3 hm
              go_wp2_with (go_at_call 12; rw [← HCV.out]; refine (HD.out _ (HF.out.keep ((Below.refl _ _).alloc (Nat.le_refl _) _))).mono ?_; rintro e w4 ⟨rfl, H4⟩; rw [E1.out, E2.out]; have H4H := Lib.hid H4; clear H4)
              go_roundw
              case rel => exact ⟨i + 1, i + 1, _, by omega, by simp, by omega, E3.out, H4H.out⟩
              case measure => simp [intOf]; omega
            · obtain ⟨e1, e2, e3⟩ := row_full (n := 0) (show Row 1 299 M from by have := HR.out; rw [show m = 299 by omega] at this; exact this) (.inr rfl) hlt (by omega) (by omega)
              have E1 := Lib.hid e1
              have E2 := Lib.hid e2
              have E3 := Lib.hid e3
              have HCV := Lib.hid (show chgV (rowC 1 i 0) = .agg #[.int .i64 1, .int .i64 0, .int .i64 0, .string (nameT i), .string ⟨#[]⟩, .int .i64 420, .int .i64 0, .int .i64 0] from rfl)
              have HD := Lib.hid (fun (W : World) (hw : Has w2 p M W) => has_do (c := rowC 1 i 0) hw HSM.out (by omega) (by rw [HLN.out]; omega) (by show -9223372036854775808 ≤ 0 ∧ 0 ≤ 9223372036854775807; omega))
              clear e1 e2 e3 hm
              go_wp2_with (go_at_call 12; rw [← HCV.out]; refine (HD.out _ (HF.out.keep ((Below.refl _ _).alloc (Nat.le_refl _) _))).mono ?_; rintro e w4 ⟨rfl, H4⟩; rw [E1.out, E2.out]; have H4H := Lib.hid H4; clear H4)
              go_roundw
              case rel => exact ⟨i + 1, 299, M, by omega, by simp, by omega, by have := HR.out; rw [show m = 299 by have := HM.out; omega] at this; exact this, by have := H4H.out; rw [E3.out] at this; exact this⟩
              case measure => simp [intOf]; omega

        · have hm9 : m = 299 := by omega
          have HR9 := Lib.hid (show Row 1 299 M from by have := HR.out; rw [hm9] at this; exact this)
          have HSM := Lib.hid (row_small HR9.out (by omega))
          have HLN := Lib.hid (row_len HR9.out)
          obtain ⟨root, rest, l1, l2, l3, l4⟩ := row_last HR9.out (.inr rfl)
          have L1 := Lib.hid (show wrongM M moreC = 0 from l1)
          have L2 := Lib.hid l2
          have L3 := Lib.hid l3
          have l4' : root.links = 2 := l4
          have HCV := Lib.hid (show chgV moreC = .agg #[.int .i64 2, .int .i64 0, .int .i64 1, .string ⟨#[109, 111, 114, 101]⟩, .string ⟨#[]⟩, .int .i64 0, .int .i64 0, .int .i64 0] from rfl)
          have k8 : root.known[8]? = some (.int .i64 root.links) := rfl
          clear l1 l2 l3 l4 hm hm9 HR
          go_wp2_with (first
            | (go_at_call 12; rw [← HCV.out]; refine (has_do (c := moreC) HF.out HSM.out (by omega) (by rw [HLN.out]; omega) ⟨by decide, by decide⟩).mono ?_; rintro e w4 ⟨rfl, H4⟩; rw [L1.out]; rw [L2.out] at H4; have H4H := Lib.hid H4; clear H4)
            | (go_at_call 17; refine (has_root H4H.out).mono ?_; rintro e w5 ⟨rfl, hb5⟩; have HB5 := Lib.hid hb5; have H5H := Lib.hid (H4H.out.keep hb5); clear hb5)
            | (refine wpList_store_row rfl 49 (.tmp 13) (.tmp 85) rfl w5.heap.size root.known.toArray rfl rfl _ _ (heap_alloc_new _ _) (by rw [sizeKnown]; rfl) rfl (known_one root) ?_; rw [World.setRow_alloc_new])
            | (go_at_call 18; refine (has_count (H5H.out.keep ((Below.refl _ _).alloc (Nat.le_refl _) _)) (by simp)).mono ?_; rintro e w6 ⟨rfl, hw⟩; subst hw; rw [List.length_cons, L3.out]))
          go_ret
          exact ⟨rfl, HB.out.trans ((H5H.out.below.alloc (H5H.out.below.size) _).mono HB.out.size)⟩
    | true =>
      go_enter Try.func5, Try.ntmps5
      go_wp2_with fail
      refine (awake_any _).mono ?_
      rintro e w2 ⟨rfl, hb⟩
      have HB := Lib.hid hb
      clear hb
      go_wp2_with fail
      refine (new_any _).mono ?_
      rintro e w3 ⟨p, rfl, H3⟩
      have HH := Lib.hid H3
      clear H3
      go_wp2_with fail
      go_loopw [7] (ManyRel 2 p w2) (fun v _ => 320 - (intOf v).toNat)
      case atStart => exact ⟨0, 0, newM, by omega, rfl, by omega, row_new 2, HH.out⟩
      case round =>
        obtain ⟨i, m, M, hi, rfl, hm, hrow, hhas⟩ := hrel
        have HR := Lib.hid hrow
        have HF := Lib.hid hhas
        clear hrow hhas
        by_cases hlt : i < 320
        · obtain ⟨r, hr, r1⟩ : ∃ r : Nat, Int.tmod (i : Int) 26 = (r : Int) ∧ r = i % 26 := ⟨i % 26, by rw [(quo_rem (i : Int) 26 (by omega)).2]; omega, rfl⟩
          obtain ⟨q, hq, q1⟩ : ∃ q : Nat, Int.tdiv (i : Int) 26 = (q : Int) ∧ q = i / 26 := ⟨i / 26, by rw [(quo_rem (i : Int) 26 (by omega)).1]; omega, rfl⟩
          have r2 : (r : Int) < 26 := by omega
          have q2 : (q : Int) ≤ 12 := by omega
          have hconv := conv_name (w := wr) hlt r1 q1
          have HM := Lib.hid hm
          have HSM := Lib.hid (row_small HR.out (by omega))
          have HLN := Lib.hid (row_len HR.out)
          clear r1 q1
          by_cases hl : i < len
          · obtain ⟨a, hso, hbl, hcell, z0, z1⟩ := HZ.out i hl
            subst hso
            have hcr : wr.cell? (a.add i) = some (.int .u32 (zs.getD i 0)) := by
              rw [(HB.out.trans (HF.out.below.mono HB.out.size)).cell (p := a.add i) (by rw [blk_add]; exact hbl)]
              exact hcell
            generalize zs.getD i 0 = z at *
            clear hcell
            by_cases h9 : i < 299
            · obtain ⟨e1, e2, e3⟩ := row_more (n := z) HR.out (.inl rfl) hlt z0 (by omega) (by omega)
              have E1 := Lib.hid e1
              have E2 := Lib.hid e2
              have E3 := Lib.hid e3
              have HCV := Lib.hid (show chgV (rowC 2 i z) = .agg #[.int .i64 0, .int .i64 0, .int .i64 0, .string (nameT i), .string ⟨#[]⟩, .int .i64 420, .int .i64 0, .int .i64 z] from rfl)
              have HD := Lib.hid (fun (W : World) (hw : Has w2 p M W) => has_do (c := rowC 2 i z) hw HSM.out (by omega) (by rw [HLN.out]; omega) (by show -9223372036854775808 ≤ z ∧ z ≤ 9223372036854775807; omega))
              clear e1 e2 e3 hm
              go_wp2_with (go_at_call 12; rw [← HCV.out]; refine (HD.out _ (HF.out.keep ((Below.refl _ _).alloc (Nat.le_refl _) _))).mono ?_; rintro e w4 ⟨rfl, H4⟩; rw [E1.out, E2.out]; have H4H := Lib.hid H4; clear H4)
              go_roundw
              case rel => exact ⟨i + 1, i + 1, _, by omega, by simp, by omega, E3.out, H4H.out⟩
              case measure => simp [intOf]; omega
            · obtain ⟨e1, e2, e3⟩ := row_full (n := z) (show Row 2 299 M from by have := HR.out; rw [show m = 299 by omega] at this; exact this) (.inl rfl) hlt z0 (by omega)
              have E1 := Lib.hid e1
              have E2 := Lib.hid e2
              have E3 := Lib.hid e3
              have HCV := Lib.hid (show chgV (rowC 2 i z) = .agg #[.int .i64 0, .int .i64 0, .int .i64 0, .string (nameT i), .string ⟨#[]⟩, .int .i64 420, .int .i64 0, .int .i64 z] from rfl)
              have HD := Lib.hid (fun (W : World) (hw : Has w2 p M W) => has_do (c := rowC 2 i z) hw HSM.out (by omega) (by rw [HLN.out]; omega) (by show -9223372036854775808 ≤ z ∧ z ≤ 9223372036854775807; omega))
              clear e1 e2 e3 hm
              go_wp2_with (go_at_call 12; rw [← HCV.out]; refine (HD.out _ (HF.out.keep ((Below.refl _ _).alloc (Nat.le_refl _) _))).mono ?_; rintro e w4 ⟨rfl, H4⟩; rw [E1.out, E2.out]; have H4H := Lib.hid H4; clear H4)
              go_roundw
              case rel => exact ⟨i + 1, 299, M, by omega, by simp, by omega, by have := HR.out; rw [show m = 299 by have := HM.out; omega] at this; exact this, by have := H4H.out; rw [E3.out] at this; exact this⟩
              case measure => simp [intOf]; omega

          · have dl : decide ((i : Int) < (len : Int)) = false := decide_eq_false (by omega)
            by_cases h9 : i < 299
            · obtain ⟨e1, e2, e3⟩ := row_more (n := 0) HR.out (.inl rfl) hlt (by omega) (by omega) (by omega)
              have E1 := Lib.hid e1
              have E2 := Lib.hid e2
              have E3 := Lib.hid e3
              have HCV := Lib.hid (show chgV (rowC 2 i 0) = .agg #[.int .i64 0, .int .i64 0, .int .i64 0, .string (nameT i), .string ⟨#[]⟩, .int .i64 420, .int .i64 0, .int .i64 0] from rfl)
              have HD := Lib.hid (fun (W : World) (hw : Has w2 p M W) => has_do (c := rowC 2 i 0) hw HSM.out (by omega) (by rw [HLN.out]; omega) (by show -9223372036854775808 ≤ 0 ∧ 0 ≤ 9223372036854775807; omega))
              clear e1 e2 e3 hm
              go_wp2_with (go_at_call 12; rw [← HCV.out]; refine (HD.out _ (HF.out.keep ((Below.refl _ _).alloc (Nat.le_refl _) _))).mono ?_; rintro e w4 ⟨rfl, H4⟩; rw [E1.out, E2.out]; have H4H := Lib.hid H4; clear H4)
              go_roundw
              case rel => exact ⟨i + 1, i + 1, _, by omega, by simp, by omega, E3.out, H4H.out⟩
              case measure => simp [intOf]; omega
            · obtain ⟨e1, e2, e3⟩ := row_full (n := 0) (show Row 2 299 M from by have := HR.out; rw [show m = 299 by omega] at this; exact this) (.inl rfl) hlt (by omega) (by omega)
              have E1 := Lib.hid e1
              have E2 := Lib.hid e2
              have E3 := Lib.hid e3
              have HCV := Lib.hid (show chgV (rowC 2 i 0) = .agg #[.int .i64 0, .int .i64 0, .int .i64 0, .string (nameT i), .string ⟨#[]⟩, .int .i64 420, .int .i64 0, .int .i64 0] from rfl)
              have HD := Lib.hid (fun (W : World) (hw : Has w2 p M W) => has_do (c := rowC 2 i 0) hw HSM.out (by omega) (by rw [HLN.out]; omega) (by show -9223372036854775808 ≤ 0 ∧ 0 ≤ 9223372036854775807; omega))
              clear e1 e2 e3 hm
              go_wp2_with (go_at_call 12; rw [← HCV.out]; refine (HD.out _ (HF.out.keep ((Below.refl _ _).alloc (Nat.le_refl _) _))).mono ?_; rintro e w4 ⟨rfl, H4⟩; rw [E1.out, E2.out]; have H4H := Lib.hid H4; clear H4)
              go_roundw
              case rel => exact ⟨i + 1, 299, M, by omega, by simp, by omega, by have := HR.out; rw [show m = 299 by have := HM.out; omega] at this; exact this, by have := H4H.out; rw [E3.out] at this; exact this⟩
              case measure => simp [intOf]; omega

        · have hm9 : m = 299 := by omega
          have HR9 := Lib.hid (show Row 2 299 M from by have := HR.out; rw [hm9] at this; exact this)
          have HSM := Lib.hid (row_small HR9.out (by omega))
          have HLN := Lib.hid (row_len HR9.out)
          obtain ⟨root, rest, l1, l2, l3, l4⟩ := row_last HR9.out (.inl rfl)
          have L1 := Lib.hid (show wrongM M moreC = 1 from l1)
          have L2 := Lib.hid l2
          have L3 := Lib.hid l3
          have l4' : root.links = 301 := l4
          have HCV := Lib.hid (show chgV moreC = .agg #[.int .i64 2, .int .i64 0, .int .i64 1, .string ⟨#[109, 111, 114, 101]⟩, .string ⟨#[]⟩, .int .i64 0, .int .i64 0, .int .i64 0] from rfl)
          have k8 : root.known[8]? = some (.int .i64 root.links) := rfl
          clear l1 l2 l3 l4 hm hm9 HR
          go_wp2_with (first
            | (go_at_call 12; rw [← HCV.out]; refine (has_do (c := moreC) HF.out HSM.out (by omega) (by rw [HLN.out]; omega) ⟨by decide, by decide⟩).mono ?_; rintro e w4 ⟨rfl, H4⟩; rw [L1.out]; rw [L2.out] at H4; have H4H := Lib.hid H4; clear H4)
            | (go_at_call 17; refine (has_root H4H.out).mono ?_; rintro e w5 ⟨rfl, hb5⟩; have HB5 := Lib.hid hb5; have H5H := Lib.hid (H4H.out.keep hb5); clear hb5)
            | (refine wpList_store_row rfl 49 (.tmp 13) (.tmp 85) rfl w5.heap.size root.known.toArray rfl rfl _ _ (heap_alloc_new _ _) (by rw [sizeKnown]; rfl) rfl (known_one root) ?_; rw [World.setRow_alloc_new])
            | (go_at_call 18; refine (has_count (H5H.out.keep ((Below.refl _ _).alloc (Nat.le_refl _) _)) (by simp)).mono ?_; rintro e w6 ⟨rfl, hw⟩; subst hw; rw [List.length_cons, L3.out]))
          go_ret
          exact ⟨rfl, HB.out.trans ((H5H.out.below.alloc (H5H.out.below.size) _).mono HB.out.size)⟩
end Go.Proofs.Ytehieipiagpehaa
