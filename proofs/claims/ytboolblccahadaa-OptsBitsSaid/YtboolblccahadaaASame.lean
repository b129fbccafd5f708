/-
  What the reference's Same (of options, and of texts) and Few return, and the laws' awake. Conditions: what is compared lies in memory; two lists that are alike.
-/
import Derived.Test.YtboolblccahadaaARead
import Derived.Deep.QuietTactic
import Derived.BigQuiet
set_option linter.unusedVariables false
set_option linter.unusedSimpArgs false
namespace Go.Proofs.Ytboolblccahadaa.A
open Go.Proofs.Ytboolblccahadaa.B
open Go.RowKit

def SamRel (n : Nat) (w : World) (v : Value) (wr : World) : Prop := ∃ k : Nat, v = .int .i64 (k : Int) ∧ k ≤ n ∧ Hid (Below w.heap.size w wr)
set_option maxHeartbeats 4000000 in
theorem tsame_any (x : List ByteArray) (a1 a2 : Option Addr) (c1 c2 : Nat) (w : World) (H1 : TxtL w a1 x) (H2 : TxtL w a2 x) (hl : x.length ≤ 1000000) :
    Calls Try.prog 10 #[.slice a1 x.length c1, .slice a2 x.length c2] w fun e w' => e = .returned (.bool true) ∧ Below w.heap.size w w' := by
  have HX := Lib.hid H1
  have HY := Lib.hid H2
  clear H1 H2
  have d0 : ((x.length : Int) != (x.length : Int)) = false := by simp
  go_enter Try.func10, Try.ntmps10
  go_wp2
  go_loopw [5] (SamRel x.length w) (fun v _ => x.length - (intOf v).toNat)
  case atStart => exact ⟨0, rfl, Nat.zero_le _, Lib.hid (Below.refl _ _)⟩
  case round =>
    obtain ⟨k, rfl, hk, HB⟩ := hrel
    by_cases h1 : k < x.length
    · have e1 : decide ((k : Int) < (x.length : Int)) = true := decide_eq_true (by omega)
      obtain ⟨S, hS⟩ : ∃ S, x[k]? = some S := ⟨_, List.getElem?_eq_getElem h1⟩
      have hb1 := txt_at (HX.out.keep HB.out) hS
      have hb2 := txt_at (HY.out.keep HB.out) hS
      obtain ⟨b, off, rfl, _, g1⟩ := hb1
      obtain ⟨b2, off2, rfl, _, g2⟩ := hb2
      have n1 : ∀ n, (wr.drewN n).cell? ⟨b, off + k, none⟩ = some (.string S) := fun n => by
        obtain ⟨b', off', e, _, q⟩ := txt_at (HX.out.keep (below_drewNb (n := n) HB.out)) hS
        simp only [Option.some.injEq, Addr.mk.injEq] at e
        obtain ⟨rfl, rfl, _⟩ := e
        exact q
      have n2 : ∀ n, (wr.drewN n).cell? ⟨b2, off2 + k, none⟩ = some (.string S) := fun n => by
        obtain ⟨b', off', e, _, q⟩ := txt_at (HY.out.keep (below_drewNb (n := n) HB.out)) hS
        simp only [Option.some.injEq, Addr.mk.injEq] at e
        obtain ⟨rfl, rfl, _⟩ := e
        exact q
      have hne : (S.toList != S.toList) = false := by simp
      clear hS
      go_upto_region 6 with fail
      go_quiet (fail)
      have HB2 := Lib.hid (show Below w.heap.size w (wr.drewN nq) from below_drewNb HB.out)
      generalize wr.drewN nq = w2 at *
      clear g1 g2 n1 n2
      go_wp2_with fail
      go_roundw
      case rel => exact ⟨k + 1, by go_num, by omega, HB2⟩
      case measure => simp [intOf]; omega
    · have e1 : decide ((k : Int) < (x.length : Int)) = false := decide_eq_false (by omega)
      go_wp2_with fail
      go_ret
      exact ⟨rfl, HB.out⟩
set_option maxHeartbeats 4000000 in
theorem osame_any (x : List Op) (a1 a2 : Option Addr) (c1 c2 : Nat) (w : World) (H1 : RowL 2 opC w a1 x) (H2 : RowL 2 opC w a2 x) (hl : x.length ≤ 1000000) :
    Calls Try.prog 12 #[.slice a1 x.length c1, .slice a2 x.length c2] w fun e w' => e = .returned (.bool true) ∧ Below w.heap.size w w' := by
  have HX := Lib.hid H1
  have HY := Lib.hid H2
  clear H1 H2
  have d0 : ((x.length : Int) != (x.length : Int)) = false := by simp
  go_enter Try.func12, Try.ntmps12
  go_wp2
  go_loopw [5] (SamRel x.length w) (fun v _ => x.length - (intOf v).toNat)
  case atStart => exact ⟨0, rfl, Nat.zero_le _, Lib.hid (Below.refl _ _)⟩
  case round =>
    obtain ⟨k, rfl, hk, HB⟩ := hrel
    by_cases h1 : k < x.length
    · have e1 : decide ((k : Int) < (x.length : Int)) = true := decide_eq_true (by omega)
      obtain ⟨S, hS⟩ : ∃ S, x[k]? = some S := ⟨_, List.getElem?_eq_getElem h1⟩
      have hb1 := (HX.out.keep HB.out).at_ hS
      have hb2 := (HY.out.keep HB.out).at_ hS
      obtain ⟨b, off, rfl, _, g1⟩ := hb1
      obtain ⟨b2, off2, rfl, _, g2⟩ := hb2
      have HRx := Lib.hid (show ∀ W : World, (∃ n, W = wr.drewN n) → W.rangeAt b (off + k * 2) (opC S) from fun W ⟨n, hW⟩ => by
        obtain ⟨b', off', e, _, q⟩ := (HX.out.keep (below_drewNb (n := n) HB.out)).at_ hS
        simp only [Option.some.injEq, Addr.mk.injEq] at e
        obtain ⟨rfl, rfl, _⟩ := e
        rw [hW]
        exact q)
      have HRy := Lib.hid (show ∀ W : World, (∃ n, W = wr.drewN n) → W.rangeAt b2 (off2 + k * 2) (opC S) from fun W ⟨n, hW⟩ => by
        obtain ⟨b', off', e, _, q⟩ := (HY.out.keep (below_drewNb (n := n) HB.out)).at_ hS
        simp only [Option.some.injEq, Addr.mk.injEq] at e
        obtain ⟨rfl, rfl, _⟩ := e
        rw [hW]
        exact q)
      clear hS g1 g2
      go_upto_region 6 with fail
      refine wp_region_quiet_lit (by kernel_rfl) (by kernel_rfl) ?_
      repeat (first | go_big_quiet_skip | (go_big_quiet_want; go_big_quiet_op; go_big_quiet_on))
      go_big_quiet_want
      refine quiet_row 35 (.tmp 19) rfl b (off + k * 2) rfl (opC S) _ HRx.out Try.underlying35 rfl sizeOp ?_
      try simp only [Act.put, List.setIfInBounds_toArray, List.set_cons_zero, List.set_cons_succ]
      go_big_quiet_on
      repeat (first | go_big_quiet_skip | (go_big_quiet_want; go_big_quiet_op; go_big_quiet_on))
      go_big_quiet_want
      refine quiet_row 35 (.tmp 23) rfl b2 (off2 + k * 2) rfl (opC S) _ HRy.out Try.underlying35 rfl sizeOp ?_
      try simp only [Act.put, List.setIfInBounds_toArray, List.set_cons_zero, List.set_cons_succ]
      go_big_quiet_on
      unfold opC
      repeat (first | go_big_quiet_skip | (go_big_quiet_want; go_big_quiet_op; go_big_quiet_on))
      refine wpQuiet_nil ?_
      rintro _ ⟨nq, rfl⟩
      have HB2 := Lib.hid (show Below w.heap.size w (wr.drewN nq) from below_drewNb HB.out)
      generalize wr.drewN nq = w2 at *
      go_wp2_with fail
      go_roundw
      case rel => exact ⟨k + 1, by go_num, by omega, HB2⟩
      case measure => simp [intOf]; omega
    · have e1 : decide ((k : Int) < (x.length : Int)) = false := decide_eq_false (by omega)
      go_wp2_with fail
      go_ret
      exact ⟨rfl, HB.out⟩

/-! ### few -/
def FewT (specs : List Sp) (args : List ByteArray) : Prop := args.length ≤ 30 ∧ specs.length ≤ 30 ∧ (∀ x ∈ args, x.size ≤ 200) ∧ ∀ s ∈ specs, s.long.size ≤ 100
def FewR1 (args : List ByteArray) (w : World) (v : Value) (wr : World) : Prop := ∃ k : Nat, k ≤ args.length ∧ k ≤ 100 ∧ v = .int .i64 (k : Int) ∧ wr = w ∧ Hid (∀ (j : Nat) (x : ByteArray), j < k → args[j]? = some x → x.size ≤ 200)
def FewR2 (specs : List Sp) (w : World) (v : Value) (wr : World) : Prop := ∃ k : Nat, k ≤ specs.length ∧ k ≤ 100 ∧ v = .int .i64 (k : Int) ∧ wr = w ∧ Hid (∀ (j : Nat) (x : Sp), j < k → specs[j]? = some x → x.long.size ≤ 100)
set_option maxRecDepth 100000 in
set_option maxHeartbeats 4000000 in
theorem afew_any (specs : List Sp) (args : List ByteArray) (sa la : Option Addr) (sc lc : Nat) (w : World) (hs : SpsL w sa specs) (hl : TxtL w la args) (hn : specs.length ≤ 9223372036854775807) (hk : args.length ≤ 9223372036854775807) (hz : ∀ x ∈ args, x.size ≤ 9223372036854775807) (hy : ∀ s ∈ specs, s.long.size ≤ 9223372036854775807) :
    Calls Try.prog 8 #[.slice sa specs.length sc, .slice la args.length lc] w fun e w' => ∃ b : Bool, e = .returned (.bool b) ∧ (b = true → FewT specs args) ∧ w' = w := by
  have HS := Lib.hid hs
  have HL := Lib.hid hl
  have HZ := Lib.hid hz
  have HY := Lib.hid hy
  clear hs hl hz hy
  go_enter Try.func8, Try.ntmps8
  go_wp2_with fail
  go_loopw [5] (FewR1 args w) (fun v _ => 100 - (intOf v).toNat)
  case atStart => exact ⟨0, Nat.zero_le _, by omega, rfl, rfl, Lib.hid (fun j x hj => by omega)⟩
  case round =>
    obtain ⟨k, hk1, hk2, rfl, rfl, hno⟩ := hrel
    by_cases hlt : k < args.length
    · have d1 : decide ((k : Int) < (args.length : Int)) = true := decide_eq_true (by omega)
      by_cases h4 : k < 100
      · have d2 : decide ((k : Int) < 100) = true := decide_eq_true (by omega)
        obtain ⟨x, hx⟩ : ∃ x, args[k]? = some x := ⟨_, List.getElem?_eq_getElem hlt⟩
        obtain ⟨g, o, rfl, _, r0⟩ := txt_at HL.out hx
        have HX := Lib.hid hx
        have z1 := HZ.out x (List.mem_of_getElem? hx)
        clear hx
        by_cases hn2 : 200 < x.size
        · have f1 : decide ((200 : Int) < (x.size : Int)) = true := decide_eq_true (by omega)
          go_wp2_with fail
          go_ret
          exact ⟨false, rfl, (fun e => by cases e), rfl⟩
        · have f1 : decide ((200 : Int) < (x.size : Int)) = false := decide_eq_false (by omega)
          have HN := Lib.hid (show ∀ (j : Nat) (y : ByteArray), j < k + 1 → args[j]? = some y → y.size ≤ 200 from fun j y hj hy => by
            rcases Nat.lt_or_ge j k with q | q
            · exact hno.out j y q hy
            · obtain rfl : j = k := by omega
              rw [HX.out] at hy
              obtain rfl := Option.some.inj hy
              omega)
          go_wp2_with fail
          go_roundw
          case rel => exact ⟨k + 1, by omega, by omega, by simp, rfl, HN⟩
          case measure => simp [intOf]; omega
      · have d2 : decide ((k : Int) < 100) = false := decide_eq_false (by omega)
        have HF := Lib.hid (show args.length ≤ 30 → ∀ x ∈ args, x.size ≤ 200 from fun h => by omega)
        clear hno
        go_wp2_with fail
        go_loopw [6] (FewR2 specs wr) (fun v _ => 100 - (intOf v).toNat)
        case atStart => exact ⟨0, Nat.zero_le _, by omega, rfl, rfl, Lib.hid (fun j x hj => by omega)⟩
        case round =>
          obtain ⟨m, hm1, hm2, rfl, rfl, hno⟩ := hrel
          by_cases hlt2 : m < specs.length
          · have g1 : decide ((m : Int) < (specs.length : Int)) = true := decide_eq_true (by omega)
            by_cases h5 : m < 100
            · have g2 : decide ((m : Int) < 100) = true := decide_eq_true (by omega)
              obtain ⟨s, hs⟩ : ∃ s, specs[m]? = some s := ⟨_, List.getElem?_eq_getElem hlt2⟩
              obtain ⟨g, o, rfl, _, r0, r1, r2⟩ := sps_at HS.out hs
              have HX := Lib.hid hs
              have z1 := HY.out s (List.mem_of_getElem? hs)
              clear hs r0 r2
              by_cases hn2 : 100 < s.long.size
              · have f1 : decide ((100 : Int) < (s.long.size : Int)) = true := decide_eq_true (by omega)
                go_wp2_with fail
                go_ret
                exact ⟨false, rfl, (fun e => by cases e), rfl⟩
              · have f1 : decide ((100 : Int) < (s.long.size : Int)) = false := decide_eq_false (by omega)
                have HN := Lib.hid (show ∀ (j : Nat) (y : Sp), j < m + 1 → specs[j]? = some y → y.long.size ≤ 100 from fun j y hj hy => by
                  rcases Nat.lt_or_ge j m with q | q
                  · exact hno.out j y q hy
                  · obtain rfl : j = m := by omega
                    rw [HX.out] at hy
                    obtain rfl := Option.some.inj hy
                    omega)
                go_wp2_with fail
                go_roundw
                case rel => exact ⟨m + 1, by omega, by omega, by simp, rfl, HN⟩
                case measure => simp [intOf]; omega
            · have g2 : decide ((m : Int) < 100) = false := decide_eq_false (by omega)
              have HG := Lib.hid (show specs.length ≤ 30 → ∀ s ∈ specs, s.long.size ≤ 100 from fun h => by omega)
              clear hno
              by_cases a30 : args.length ≤ 30
              · have k1 : decide ((args.length : Int) ≤ 30) = true := decide_eq_true (by omega)
                by_cases s30 : specs.length ≤ 30
                · have k2 : decide ((specs.length : Int) ≤ 30) = true := decide_eq_true (by omega)
                  go_wp2_with fail
                  go_ret
                  exact ⟨true, rfl, fun _ => ⟨a30, s30, HF.out a30, HG.out s30⟩, rfl⟩
                · have k2 : decide ((specs.length : Int) ≤ 30) = false := decide_eq_false (by omega)
                  go_wp2_with fail
                  go_ret
                  exact ⟨false, rfl, (fun e => by cases e), rfl⟩
              · have k1 : decide ((args.length : Int) ≤ 30) = false := decide_eq_false (by omega)
                go_wp2_with fail
                go_ret
                exact ⟨false, rfl, (fun e => by cases e), rfl⟩
          · have g1 : decide ((m : Int) < (specs.length : Int)) = false := decide_eq_false (by omega)
            have HG := Lib.hid (show specs.length ≤ 30 → ∀ s ∈ specs, s.long.size ≤ 100 from fun _ s hs => by
              obtain ⟨j, hj⟩ := List.mem_iff_getElem?.1 hs
              exact hno.out j s (by have := (List.getElem?_eq_some_iff.1 hj).1; omega) hj)
            clear hno
            by_cases a30 : args.length ≤ 30
            · have k1 : decide ((args.length : Int) ≤ 30) = true := decide_eq_true (by omega)
              by_cases s30 : specs.length ≤ 30
              · have k2 : decide ((specs.length : Int) ≤ 30) = true := decide_eq_true (by omega)
                go_wp2_with fail
                go_ret
                exact ⟨true, rfl, fun _ => ⟨a30, s30, HF.out a30, HG.out s30⟩, rfl⟩
              · have k2 : decide ((specs.length : Int) ≤ 30) = false := decide_eq_false (by omega)
                go_wp2_with fail
                go_ret
                exact ⟨false, rfl, (fun e => by cases e), rfl⟩
            · have k1 : decide ((args.length : Int) ≤ 30) = false := decide_eq_false (by omega)
              go_wp2_with fail
              go_ret
              exact ⟨false, rfl, (fun e => by cases e), rfl⟩
    · have d1 : decide ((k : Int) < (args.length : Int)) = false := decide_eq_false (by omega)
      have HF := Lib.hid (show args.length ≤ 30 → ∀ x ∈ args, x.size ≤ 200 from fun _ x hx => by
        obtain ⟨j, hj⟩ := List.mem_iff_getElem?.1 hx
        exact hno.out j x (by have := (List.getElem?_eq_some_iff.1 hj).1; omega) hj)
      clear hno
      go_wp2_with fail
      go_loopw [6] (FewR2 specs wr) (fun v _ => 100 - (intOf v).toNat)
      case atStart => exact ⟨0, Nat.zero_le _, by omega, rfl, rfl, Lib.hid (fun j x hj => by omega)⟩
      case round =>
        obtain ⟨m, hm1, hm2, rfl, rfl, hno⟩ := hrel
        by_cases hlt2 : m < specs.length
        · have g1 : decide ((m : Int) < (specs.length : Int)) = true := decide_eq_true (by omega)
          by_cases h5 : m < 100
          · have g2 : decide ((m : Int) < 100) = true := decide_eq_true (by omega)
            obtain ⟨s, hs⟩ : ∃ s, specs[m]? = some s := ⟨_, List.getElem?_eq_getElem hlt2⟩
            obtain ⟨g, o, rfl, _, r0, r1, r2⟩ := sps_at HS.out hs
            have HX := Lib.hid hs
            have z1 := HY.out s (List.mem_of_getElem? hs)
            clear hs r0 r2
            by_cases hn2 : 100 < s.long.size
            · have f1 : decide ((100 : Int) < (s.long.size : Int)) = true := decide_eq_true (by omega)
              go_wp2_with fail
              go_ret
              exact ⟨false, rfl, (fun e => by cases e), rfl⟩
            · have f1 : decide ((100 : Int) < (s.long.size : Int)) = false := decide_eq_false (by omega)
              have HN := Lib.hid (show ∀ (j : Nat) (y : Sp), j < m + 1 → specs[j]? = some y → y.long.size ≤ 100 from fun j y hj hy => by
                rcases Nat.lt_or_ge j m with q | q
                · exact hno.out j y q hy
                · obtain rfl : j = m := by omega
                  rw [HX.out] at hy
                  obtain rfl := Option.some.inj hy
                  omega)
              go_wp2_with fail
              go_roundw
              case rel => exact ⟨m + 1, by omega, by omega, by simp, rfl, HN⟩
              case measure => simp [intOf]; omega
          · have g2 : decide ((m : Int) < 100) = false := decide_eq_false (by omega)
            have HG := Lib.hid (show specs.length ≤ 30 → ∀ s ∈ specs, s.long.size ≤ 100 from fun h => by omega)
            clear hno
            by_cases a30 : args.length ≤ 30
            · have k1 : decide ((args.length : Int) ≤ 30) = true := decide_eq_true (by omega)
              by_cases s30 : specs.length ≤ 30
              · have k2 : decide ((specs.length : Int) ≤ 30) = true := decide_eq_true (by omega)
                go_wp2_with fail
                go_ret
                exact ⟨true, rfl, fun _ => ⟨a30, s30, HF.out a30, HG.out s30⟩, rfl⟩
              · have k2 : decide ((specs.length : Int) ≤ 30) = false := decide_eq_false (by omega)
                go_wp2_with fail
                go_ret
                exact ⟨false, rfl, (fun e => by cases e), rfl⟩
            · have k1 : decide ((args.length : Int) ≤ 30) = false := decide_eq_false (by omega)
              go_wp2_with fail
              go_ret
              exact ⟨false, rfl, (fun e => by cases e), rfl⟩
        · have g1 : decide ((m : Int) < (specs.length : Int)) = false := decide_eq_false (by omega)
          have HG := Lib.hid (show specs.length ≤ 30 → ∀ s ∈ specs, s.long.size ≤ 100 from fun _ s hs => by
            obtain ⟨j, hj⟩ := List.mem_iff_getElem?.1 hs
            exact hno.out j s (by have := (List.getElem?_eq_some_iff.1 hj).1; omega) hj)
          clear hno
          by_cases a30 : args.length ≤ 30
          · have k1 : decide ((args.length : Int) ≤ 30) = true := decide_eq_true (by omega)
            by_cases s30 : specs.length ≤ 30
            · have k2 : decide ((specs.length : Int) ≤ 30) = true := decide_eq_true (by omega)
              go_wp2_with fail
              go_ret
              exact ⟨true, rfl, fun _ => ⟨a30, s30, HF.out a30, HG.out s30⟩, rfl⟩
            · have k2 : decide ((specs.length : Int) ≤ 30) = false := decide_eq_false (by omega)
              go_wp2_with fail
              go_ret
              exact ⟨false, rfl, (fun e => by cases e), rfl⟩
          · have k1 : decide ((args.length : Int) ≤ 30) = false := decide_eq_false (by omega)
            go_wp2_with fail
            go_ret
            exact ⟨false, rfl, (fun e => by cases e), rfl⟩

/-! ### awake -/
def awSpecs : List Sp := [⟨97, ⟨#[]⟩, false⟩]
def awArgs : List ByteArray := [⟨#[45, 97]⟩, ⟨#[120]⟩]
theorem aw_read : readM awSpecs awArgs = .ok [⟨97, ⟨#[]⟩⟩] [⟨#[120]⟩] := by
  have h1 : kindA awSpecs ⟨#[45, 97]⟩ = .opts [⟨97, ⟨#[]⟩⟩] := rfl
  have h2 : kindA awSpecs ⟨#[120]⟩ = .operand := rfl
  unfold awArgs
  rw [read_cons, h1, read_cons, h2, readM]
  rfl
set_option maxRecDepth 100000 in
set_option maxHeartbeats 2000000 in
theorem awake_any (w : World) (hm : MaxT w) :
    Calls Try.prog 7 #[] w fun e w' => e = .returned (.bool true) ∧ Below w.heap.size w w' := by
  have HB1 := Lib.hid (((Below.refl w.heap.size w).alloc (Nat.le_refl _) (.cells #[.int .u8 97, .string ⟨#[]⟩, .bool false] 42)).alloc (by simp) (.cells #[.string ⟨#[45, 97]⟩, .string ⟨#[120]⟩] 9))
  have HX := Lib.hid ((heap_alloc_old (w.alloc (.cells #[.int .u8 97, .string ⟨#[]⟩, .bool false] 42)) (.cells #[.string ⟨#[45, 97]⟩, .string ⟨#[120]⟩] 9) (heap_lt (heap_alloc_new w (.cells #[.int .u8 97, .string ⟨#[]⟩, .bool false] 42)))).trans (heap_alloc_new w (.cells #[.int .u8 97, .string ⟨#[]⟩, .bool false] 42)))
  have HY := Lib.hid (heap_alloc_new (w.alloc (.cells #[.int .u8 97, .string ⟨#[]⟩, .bool false] 42)) (.cells #[.string ⟨#[45, 97]⟩, .string ⟨#[120]⟩] 9))
  rw [show (w.alloc (.cells #[.int .u8 97, .string ⟨#[]⟩, .bool false] 42)).heap.size = w.heap.size + 1 by simp] at HY
  have HM := Lib.hid hm
  clear hm
  go_enter Try.func7, Try.ntmps7
  go_wp2_with fail
  generalize (w.alloc (.cells #[.int .u8 97, .string ⟨#[]⟩, .bool false] 42)).alloc (.cells #[.string ⟨#[45, 97]⟩, .string ⟨#[120]⟩] 9) = w1 at HB1 HX HY ⊢
  have HS := Lib.hid (show SpsL w1 (some ⟨w.heap.size, 0, none⟩) awSpecs from .inr ⟨_, 0, rfl, heap_lt HX.out, fun i x hx j v hj => by
    match i, hx with
    | 0, hx =>
      obtain rfl := Option.some.inj hx
      rw [cell_of_row _ _ _ _ _ _ HX.out, Nat.zero_mul, Nat.zero_add]
      simpa [spC] using hj⟩)
  have HT := Lib.hid (show TxtL w1 (some ⟨w.heap.size + 1, 0, none⟩) awArgs from .inr ⟨_, 0, rfl, heap_lt HY.out, fun i x hx j v hj => by
    have hj0 : j = 0 := by have := (List.getElem?_eq_some_iff.1 hj).1; simp [txC] at this; omega
    subst hj0
    rw [cell_of_row _ _ _ _ _ _ HY.out]
    match i, hx with
    | 0, hx =>
      obtain rfl := Option.some.inj hx
      rw [← hj]
      rfl
    | 1, hx =>
      obtain rfl := Option.some.inj hx
      rw [← hj]
      rfl⟩)
  refine (read_any awSpecs awArgs _ _ 1 2 w1 HS.out HT.out ⟨by decide, by decide, fun q => by cases q⟩ (HM.out.keep HB1.out) (by decide) (by decide) (fun x hx => by
    simp only [awArgs, List.mem_cons, List.not_mem_nil, or_false] at hx
    rcases hx with rfl | rfl <;> decide)).mono ?_
  rintro e w2 ⟨hr, hb2⟩
  rw [aw_read] at hr
  obtain ⟨ov, pv, rfl, ho, hp⟩ := hr
  obtain ⟨oa, oc, rfl⟩ := owns_form ho
  obtain ⟨pa, pc, rfl⟩ := owns_form hp
  have HB2 := Lib.hid (below_two HB1.out hb2)
  clear ho hp hb2
  go_wp2_with fail
  go_ret
  exact ⟨rfl, HB2.out⟩
end Go.Proofs.Ytboolblccahadaa.A
