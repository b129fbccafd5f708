/-
  What the reference's small functions return: whether a text begins with another, the spec that a name, or a letter, means. Conditions: at most 100000 specs, in memory, texts of at most 2^62 bytes.
-/
import Derived.Test.YtboolblccahadaaASpec
set_option linter.unusedVariables false
set_option linter.unusedSimpArgs false
namespace Go.Proofs.Ytboolblccahadaa.A
open Go.Proofs.Ytboolblccahadaa.B
open Go.RowKit

theorem begin_long {s t : ByteArray} (h : s.size < t.size) : Lib.hasPrefix (listB s) (listB t) = false := by
  unfold Lib.hasPrefix
  rw [Bool.eq_false_iff]
  intro z
  have := (List.isPrefixOf_iff_prefix.1 z).length_le
  rw [listB_len, listB_len] at this
  omega
theorem begin_cut {s t : ByteArray} (h : t.size ≤ s.size) : (Lib.hasPrefix (listB s) (listB t) = true ↔ s.extract 0 t.size = t) := by
  have e : listB (s.extract 0 t.size) = (listB s).take t.size := by
    unfold listB
    rw [Lib.extract_eq]
    simp
  unfold Lib.hasPrefix
  rw [List.isPrefixOf_iff_prefix, List.prefix_iff_eq_take, listB_len]
  exact ⟨fun z => listB_inj (by rw [e, ← z]), fun z => by rw [← e, z]⟩
theorem begins_any (s t : ByteArray) (w : World) (hs : s.size ≤ 4611686018427387903) (ht : t.size ≤ 4611686018427387903) :
    Calls Try.prog 17 #[.string s, .string t] w fun e w' => e = .returned (.bool (Lib.hasPrefix (listB s) (listB t))) ∧ w' = w := by
  by_cases h : t.size ≤ s.size
  · have e1 : decide ((t.size : Int) ≤ (s.size : Int)) = true := decide_eq_true (by omega)
    by_cases hp : Lib.hasPrefix (listB s) (listB t) = true
    · have q := txt_eq ((begin_cut h).1 hp)
      have HP := Lib.hid hp
      clear hp
      go_enter Try.func17, Try.ntmps17
      go_wp2_with fail
      go_ret
      exact ⟨by rw [HP.out]; rfl, rfl⟩
    · obtain ⟨q1, q2, q3⟩ := txt_ne (fun z => hp ((begin_cut h).2 z))
      rw [Bool.not_eq_true] at hp
      have HP := Lib.hid hp
      clear hp
      go_enter Try.func17, Try.ntmps17
      go_wp2_with fail
      go_ret
      exact ⟨by rw [HP.out]; rfl, rfl⟩
  · have e1 : decide ((t.size : Int) ≤ (s.size : Int)) = false := decide_eq_false (by omega)
    have HP := Lib.hid (begin_long (s := s) (t := t) (by omega))
    go_enter Try.func17, Try.ntmps17
    go_wp2_with fail
    go_ret
    exact ⟨by rw [HP.out]; rfl, rfl⟩

/-- A place, or -1. -/
def plI (k : Option Nat) : Int := match k with
  | some j => (j : Int)
  | none => -1
def RLetRel (specs : List Sp) (c : Int) (w : World) (v : Value) (wr : World) : Prop := ∃ i : Nat, i ≤ specs.length ∧ v = .int .i64 (i : Int) ∧ Hid (∀ (j : Nat) (x : Sp), j < i → specs[j]? = some x → decide (x.letter = c) = false) ∧ wr = w
set_option maxHeartbeats 1000000 in
theorem rletter_any (specs : List Sp) (c : Int) (sa : Option Addr) (sc : Nat) (w : World) (hs : SpsL w sa specs) (hn : specs.length ≤ 100000) :
    Calls Try.prog 19 #[.slice sa specs.length sc, .int .u8 c] w fun e w' => e = .returned (.int .i64 (plI (findK (fun s => decide (s.letter = c)) specs 0))) ∧ w' = w := by
  have HSp := Lib.hid hs
  clear hs
  go_enter Try.func19, Try.ntmps19
  go_wp2_with fail
  go_loopw [5] (RLetRel specs c w) (fun v _ => specs.length - (intOf v).toNat)
  case atStart => exact ⟨0, Nat.zero_le _, rfl, Lib.hid (fun j x hj => by omega), rfl⟩
  case round =>
    obtain ⟨i, hi, rfl, HNo, rfl⟩ := hrel
    by_cases hlt : i < specs.length
    · have e1 : decide ((i : Int) < (specs.length : Int)) = true := decide_eq_true (by omega)
      obtain ⟨s, hsi⟩ : ∃ s, specs[i]? = some s := ⟨_, List.getElem?_eq_getElem hlt⟩
      have HSi := Lib.hid hsi
      obtain ⟨g, o, rfl, hg, r0, r1, r2⟩ := sps_at HSp.out hsi
      clear hsi hg r1 r2
      by_cases hc : s.letter = c
      · have e2 : (s.letter == c) = true := beq_iff_eq.2 hc
        have HF := Lib.hid (find_hit (p := fun s => decide (s.letter = c)) HSi.out (decide_eq_true hc) HNo.out)
        clear hc
        go_wp2_with fail
        go_ret
        exact ⟨by rw [HF.out]; rfl, rfl⟩
      · have e2 : (s.letter == c) = false := beq_eq_false_iff_ne.2 hc
        have HN := Lib.hid (show ∀ (j : Nat) (x : Sp), j < i + 1 → specs[j]? = some x → decide (x.letter = c) = false from fun j x hj hx => by
          rcases Nat.lt_or_ge j i with q | q
          · exact HNo.out j x q hx
          · obtain rfl : j = i := by omega
            rw [HSi.out] at hx
            obtain rfl := Option.some.inj hx
            exact decide_eq_false hc)
        clear hc
        go_wp2_with fail
        go_roundw
        case rel => exact ⟨i + 1, by omega, by simp, HN, rfl⟩
        case measure => simp [intOf]; omega
    · have e1 : decide ((i : Int) < (specs.length : Int)) = false := decide_eq_false (by omega)
      have HF := Lib.hid (find_miss (p := fun s => decide (s.letter = c)) (l := specs) (fun j x hj hx => HNo.out j x (by omega) hx))
      go_wp2_with fail
      go_ret
      exact ⟨by rw [HF.out]; rfl, rfl⟩

/-! ### Meant -/
theorem meant_eq (specs : List Sp) (n : List UInt8) (hno : ∀ (j : Nat) (x : Sp), j < specs.length → specs[j]? = some x → wholeB n x = false) : plI (meantM specs n) = if cntB (startsB n) specs 0 = 1 then firB (startsB n) specs 0 else -1 := by
  unfold cntB firB
  rw [List.drop_zero]
  by_cases h : specs.countP (startsB n) = 1
  · rw [meant_one hno h, if_pos h]
    rfl
  · rw [meant_none hno h, if_neg h]
    rfl
def MeaRel (specs : List Sp) (n : List UInt8) (w : World) (f v i : Value) (wr : World) : Prop := ∃ k : Nat, k ≤ specs.length ∧ i = .int .i64 ((k : Int) - 1) ∧ f = .int .i64 (firB (startsB n) specs k) ∧ v = .int .i64 (cntB (startsB n) specs k : Int) ∧ wr = w
def WhoRel (specs : List Sp) (n : List UInt8) (w : World) (v : Value) (wr : World) : Prop := ∃ i : Nat, i ≤ specs.length ∧ v = .int .i64 (i : Int) ∧ Hid (∀ (j : Nat) (x : Sp), j < i → specs[j]? = some x → wholeB n x = false) ∧ wr = w
theorem whole_iff (n : ByteArray) (s : Sp) : (wholeB (listB n) s = true ↔ s.long = n ∧ 0 < n.size) := by
  unfold wholeB
  rw [Bool.and_eq_true, beq_iff_eq]
  refine ⟨fun ⟨z, y⟩ => ⟨listB_inj z, ?_⟩, fun ⟨z, y⟩ => ⟨by rw [z], ?_⟩⟩
  · rw [← listB_len]
    apply List.length_pos_iff.2
    intro q
    rw [q] at y
    cases y
  · rw [← listB_len] at y
    cases hn : listB n with
    | nil => rw [hn] at y; cases y
    | cons a b => rfl
set_option maxRecDepth 100000 in
set_option maxHeartbeats 8000000 in
theorem rmeant_any (specs : List Sp) (n : ByteArray) (sa : Option Addr) (sc : Nat) (w : World) (hs : SpsL w sa specs) (hn : specs.length ≤ 100000) (hz : ∀ s ∈ specs, s.long.size ≤ 100000) (hN : n.size ≤ 100000) :
    Calls Try.prog 18 #[.slice sa specs.length sc, .string n] w fun e w' => e = .returned (.int .i64 (plI (meantM specs (listB n)))) ∧ w' = w := by
  have HSp := Lib.hid hs
  have HZ := Lib.hid hz
  clear hs hz
  go_enter Try.func18, Try.ntmps18
  go_wp2_with fail
  go_loopw [5, 6, 7] (MeaRel specs (listB n) w) (fun _ _ v _ => (intOf v + 1).toNat)
  case atStart => exact ⟨specs.length, Nat.le_refl _, rfl, by rw [firB_end], by rw [cntB_end]; rfl, rfl⟩
  case round =>
    obtain ⟨k, hk, rfl, rfl, rfl, rfl⟩ := hrel
    have hfb := firB_bd (startsB (listB n)) specs k
    have hcb := cntB_le (startsB (listB n)) specs k
    cases k with
    | succ j =>
      rw [show (((j + 1 : Nat) : Int) - 1) = (j : Int) by omega]
      have e1 : decide ((0 : Int) ≤ (j : Int)) = true := decide_eq_true (by omega)
      obtain ⟨s, hsi⟩ : ∃ s, specs[j]? = some s := ⟨_, List.getElem?_eq_getElem (by omega)⟩
      have HSi := Lib.hid hsi
      obtain ⟨g, o, rfl, hg, r0, r1, r2⟩ := sps_at HSp.out hsi
      have hsz := HZ.out s (List.mem_of_getElem? hsi)
      clear hsi hg r0 r2
      by_cases h0 : s.long.size = 0
      · obtain ⟨z1, z2, z3, z4⟩ := txt_emp h0
        obtain ⟨y1, y2⟩ := name_none (n := listB n) z4
        have HC := Lib.hid (cntB_no (p := startsB (listB n)) HSi.out y1)
        have HF := Lib.hid (firB_no (p := startsB (listB n)) HSi.out y1)
        clear h0 z4 y1 y2
        generalize firB (startsB (listB n)) specs (j + 1) = F at *
        generalize cntB (startsB (listB n)) specs (j + 1) = C at *
        go_wp2_with fail
        go_roundw
        case rel => exact ⟨j, by omega, by simp, by rw [HF.out], by rw [HC.out], rfl⟩
        case measure => simp [intOf]
      · obtain ⟨z1, z2, z3, z4, z5⟩ := txt_non (s := s.long) (by omega)
        have HBg := Lib.hid (begins_any s.long n wr (by omega) (by omega))
        have HSt := Lib.hid (show startsB (listB n) s = Lib.hasPrefix (listB s.long) (listB n) from by
          unfold startsB
          have e : (listB s.long).isEmpty = false := by rw [List.isEmpty_eq_false_iff]; exact z5
          rw [e]
          rfl)
        rw [← HSt.out] at HBg
        clear h0 z5 HSt
        by_cases hp : startsB (listB n) s = true
        · rw [hp] at HBg
          have HC := Lib.hid (cntB_yes (p := startsB (listB n)) HSi.out hp)
          have HF := Lib.hid (firB_yes (p := startsB (listB n)) HSi.out hp)
          clear hp
          generalize firB (startsB (listB n)) specs (j + 1) = F at *
          generalize cntB (startsB (listB n)) specs (j + 1) = C at *
          go_wp2_with (go_at_call 17; refine HBg.out.mono ?_; rintro e w3 ⟨rfl, hw3⟩; subst hw3)
          go_roundw
          case rel => exact ⟨j, by omega, by simp, by rw [HF.out], by rw [HC.out]; go_num, rfl⟩
          case measure => simp [intOf]
        · rw [Bool.not_eq_true] at hp
          rw [hp] at HBg
          have HC := Lib.hid (cntB_no (p := startsB (listB n)) HSi.out hp)
          have HF := Lib.hid (firB_no (p := startsB (listB n)) HSi.out hp)
          clear hp
          generalize firB (startsB (listB n)) specs (j + 1) = F at *
          generalize cntB (startsB (listB n)) specs (j + 1) = C at *
          go_wp2_with (go_at_call 17; refine HBg.out.mono ?_; rintro e w3 ⟨rfl, hw3⟩; subst hw3)
          go_roundw
          case rel => exact ⟨j, by omega, by simp, by rw [HF.out], by rw [HC.out], rfl⟩
          case measure => simp [intOf]
    | zero =>
      rw [show (((0 : Nat) : Int) - 1) = -1 by omega]
      have HE := Lib.hid (meant_eq specs (listB n))
      generalize firB (startsB (listB n)) specs 0 = F at *
      generalize cntB (startsB (listB n)) specs 0 = C at *
      go_wp2_with fail
      go_loopw [8] (WhoRel specs (listB n) wr) (fun v _ => specs.length - (intOf v).toNat)
      case atStart => exact ⟨0, Nat.zero_le _, rfl, Lib.hid (fun j x hj => by omega), rfl⟩
      case round =>
        obtain ⟨i, hi, rfl, HNo, rfl⟩ := hrel
        by_cases hlt : i < specs.length
        · have e1 : decide ((i : Int) < (specs.length : Int)) = true := decide_eq_true (by omega)
          obtain ⟨s, hsi⟩ : ∃ s, specs[i]? = some s := ⟨_, List.getElem?_eq_getElem hlt⟩
          have HSi := Lib.hid hsi
          obtain ⟨g, o, rfl, hg, r0, r1, r2⟩ := sps_at HSp.out hsi
          clear hsi hg r0 r2
          have HW := Lib.hid (whole_iff n s)
          have HN := Lib.hid (show wholeB (listB n) s = false → ∀ (j : Nat) (x : Sp), j < i + 1 → specs[j]? = some x → wholeB (listB n) x = false from fun hw j x hj hx => by
            rcases Nat.lt_or_ge j i with q | q
            · exact HNo.out j x q hx
            · obtain rfl : j = i := by omega
              rw [HSi.out] at hx
              obtain rfl := Option.some.inj hx
              exact hw)
          by_cases h1 : s.long = n
          · have q1 := txt_eq h1
            by_cases h2 : 0 < n.size
            · obtain ⟨z1, z2, z3, z4, _⟩ := txt_non h2
              have HF := Lib.hid (meant_whole HSi.out (HW.out.2 ⟨h1, h2⟩) HNo.out)
              clear h1 h2
              go_wp2_with fail
              go_ret
              exact ⟨by rw [HF.out]; rfl, rfl⟩
            · obtain ⟨z1, z2, z3, _⟩ := txt_emp (s := n) (by omega)
              obtain ⟨y1, y2, y3, _⟩ := txt_emp (s := s.long) (by rw [h1]; omega)
              have HX := Lib.hid (HN.out (by rw [← Bool.not_eq_true]; exact fun z => h2 (HW.out.1 z).2))
              clear h1 h2
              go_wp2_with fail
              go_roundw
              case rel => exact ⟨i + 1, by omega, by simp, HX, rfl⟩
              case measure => simp [intOf]; omega
          · obtain ⟨q1, q2, q3⟩ := txt_ne h1
            have HX := Lib.hid (HN.out (by rw [← Bool.not_eq_true]; exact fun z => h1 (HW.out.1 z).1))
            clear h1
            go_wp2_with fail
            go_roundw
            case rel => exact ⟨i + 1, by omega, by simp, HX, rfl⟩
            case measure => simp [intOf]; omega
        · have e1 : decide ((i : Int) < (specs.length : Int)) = false := decide_eq_false (by omega)
          have HX := Lib.hid (HE.out (fun j x hj hx => HNo.out j x (by omega) hx))
          by_cases hC : C = 1
          · have e2 : ((C : Int) != 1) = false := by rw [hC]; rfl
            rw [if_pos hC] at HX
            clear hC
            go_wp2_with fail
            go_ret
            exact ⟨by rw [HX.out]; rfl, rfl⟩
          · have e2 : ((C : Int) != 1) = true := by rw [bne_iff_ne]; omega
            rw [if_neg hC] at HX
            clear hC
            go_wp2_with fail
            go_ret
            exact ⟨by rw [HX.out]; rfl, rfl⟩
end Go.Proofs.Ytboolblccahadaa.A
