/-
  What the program's small functions of layer 10 return: digits, comparing numbers and tokens. Conditions: texts of at most 60000 bytes.
-/
import Derived.Test.YtcjbnjoomgagjaaGreatDoorKOAhead
import Derived.Test.YtcjbnjoomgagjaaGreatDoorShelf
set_option linter.unusedVariables false
namespace Go.Proofs.YtcjbnjoomgagjaaGreatDoor.O
open Go.Proofs.YtcjbnjoomgagjaaGreatDoor.B
open Go.RowKit

theorem dig_any (b : UInt8) (w : World) : Calls Tryz.prog 111 #[.int .u8 (b.toNat : Int)] w fun e w' => e = .returned (.bool (digB b)) ∧ w' = w := by
  have HD := Lib.hid (show digB b = (decide (48 ≤ b.toNat) && decide (b.toNat ≤ 57)) from rfl)
  go_enter Tryz.func111, Tryz.ntmps111
  by_cases h1 : 48 ≤ b.toNat
  · have d1 : decide ((48 : Int) ≤ (b.toNat : Int)) = true := decide_eq_true (by omega)
    by_cases h2 : b.toNat ≤ 57
    · have d2 : decide ((b.toNat : Int) ≤ 57) = true := decide_eq_true (by omega)
      rw [decide_eq_true h1, decide_eq_true h2] at HD
      go_wp2
      go_ret
      exact ⟨ret_bool (by rw [HD.out]; rfl), rfl⟩
    · have d2 : decide ((b.toNat : Int) ≤ 57) = false := decide_eq_false (by omega)
      rw [decide_eq_true h1, decide_eq_false h2] at HD
      go_wp2
      go_ret
      exact ⟨ret_bool (by rw [HD.out]; rfl), rfl⟩
  · have d1 : decide ((48 : Int) ≤ (b.toNat : Int)) = false := decide_eq_false (by omega)
    rw [decide_eq_false h1] at HD
    go_wp2
    go_ret
    exact ⟨ret_bool (by rw [HD.out]; rfl), rfl⟩

theorem nan_int (x : Int) (w : World) : Calls Tryz.prog 114 #[.int .i64 x] w fun e w' => e = .returned (.bool false) ∧ w' = w := by
  go_enter Tryz.func114, Tryz.ntmps114
  go_wp2
  go_ret
  exact ⟨by simp, rfl⟩
theorem nan_int64 (x : Int) (w : World) : Calls Tryz.prog 101 #[.int .i64 x] w fun e w' => e = .returned (.bool false) ∧ w' = w := by
  go_enter Tryz.func101, Tryz.ntmps101
  go_wp2
  go_ret
  exact ⟨by simp, rfl⟩
theorem nan_byte (x : Int) (w : World) : Calls Tryz.prog 116 #[.int .u8 x] w fun e w' => e = .returned (.bool false) ∧ w' = w := by
  go_enter Tryz.func116, Tryz.ntmps116
  go_wp2
  go_ret
  exact ⟨by simp, rfl⟩
theorem cint_any (x y : Int) (w : World) : Calls Tryz.prog 105 #[.int .i64 x, .int .i64 y] w fun e w' => e = .returned (.int .i64 (cmpI x y)) ∧ w' = w := by
  have HC := Lib.hid (show cmpI x y = if x < y then -1 else if y < x then 1 else 0 from rfl)
  go_enter Tryz.func105, Tryz.ntmps105
  by_cases h1 : x < y
  · rw [if_pos h1] at HC
    go_wp2_with (go_at_call 114; refine (nan_int _ _).mono ?_; rintro e w3 ⟨rfl, hw⟩; subst hw)
    go_ret
    exact ⟨ret_int HC.out.symm, rfl⟩
  · rw [if_neg h1] at HC
    by_cases h2 : y < x
    · rw [if_pos h2] at HC
      go_wp2_with (go_at_call 114; refine (nan_int _ _).mono ?_; rintro e w3 ⟨rfl, hw⟩; subst hw)
      go_ret
      exact ⟨ret_int HC.out.symm, rfl⟩
    · rw [if_neg h2] at HC
      go_wp2_with (go_at_call 114; refine (nan_int _ _).mono ?_; rintro e w3 ⟨rfl, hw⟩; subst hw)
      go_ret
      exact ⟨ret_int HC.out.symm, rfl⟩
theorem cint64_any (x y : Int) (w : World) : Calls Tryz.prog 92 #[.int .i64 x, .int .i64 y] w fun e w' => e = .returned (.int .i64 (cmpI x y)) ∧ w' = w := by
  have HC := Lib.hid (show cmpI x y = if x < y then -1 else if y < x then 1 else 0 from rfl)
  go_enter Tryz.func92, Tryz.ntmps92
  by_cases h1 : x < y
  · rw [if_pos h1] at HC
    go_wp2_with (go_at_call 101; refine (nan_int64 _ _).mono ?_; rintro e w3 ⟨rfl, hw⟩; subst hw)
    go_ret
    exact ⟨ret_int HC.out.symm, rfl⟩
  · rw [if_neg h1] at HC
    by_cases h2 : y < x
    · rw [if_pos h2] at HC
      go_wp2_with (go_at_call 101; refine (nan_int64 _ _).mono ?_; rintro e w3 ⟨rfl, hw⟩; subst hw)
      go_ret
      exact ⟨ret_int HC.out.symm, rfl⟩
    · rw [if_neg h2] at HC
      go_wp2_with (go_at_call 101; refine (nan_int64 _ _).mono ?_; rintro e w3 ⟨rfl, hw⟩; subst hw)
      go_ret
      exact ⟨ret_int HC.out.symm, rfl⟩
theorem cbyte_any (x y : Int) (w : World) : Calls Tryz.prog 113 #[.int .u8 x, .int .u8 y] w fun e w' => e = .returned (.int .i64 (cmpI x y)) ∧ w' = w := by
  have HC := Lib.hid (show cmpI x y = if x < y then -1 else if y < x then 1 else 0 from rfl)
  go_enter Tryz.func113, Tryz.ntmps113
  by_cases h1 : x < y
  · rw [if_pos h1] at HC
    go_wp2_with (go_at_call 116; refine (nan_byte _ _).mono ?_; rintro e w3 ⟨rfl, hw⟩; subst hw)
    go_ret
    exact ⟨ret_int HC.out.symm, rfl⟩
  · rw [if_neg h1] at HC
    by_cases h2 : y < x
    · rw [if_pos h2] at HC
      go_wp2_with (go_at_call 116; refine (nan_byte _ _).mono ?_; rintro e w3 ⟨rfl, hw⟩; subst hw)
      go_ret
      exact ⟨ret_int HC.out.symm, rfl⟩
    · rw [if_neg h2] at HC
      go_wp2_with (go_at_call 116; refine (nan_byte _ _).mono ?_; rintro e w3 ⟨rfl, hw⟩; subst hw)
      go_ret
      exact ⟨ret_int HC.out.symm, rfl⟩

/-- The first of two that isn't 0. -/
def OrRel (x y : Int) (w : World) (v : Value) (wr : World) : Prop := wr = w ∧ ((v = .int .i64 0) ∨ (v = .int .i64 1 ∧ x = 0) ∨ (v = .int .i64 2 ∧ x = 0 ∧ y = 0))
set_option maxRecDepth 100000 in
set_option maxHeartbeats 4000000 in
theorem cor_any (x y : Int) (g : Nat) (w : World) (hx : w.cell? ⟨g, 0, none⟩ = some (.int .i64 x)) (hy : w.cell? ⟨g, 1, none⟩ = some (.int .i64 y)) :
    Calls Tryz.prog 87 #[.slice (some ⟨g, 0, none⟩) 2 2] w fun e w' => e = .returned (.int .i64 (if x = 0 then y else x)) ∧ w' = w := by
  obtain ⟨R, hR⟩ : ∃ R, (if x = 0 then y else x) = R := ⟨_, rfl⟩
  have HR := Lib.hid hR
  rw [hR]
  clear hR
  go_enter Tryz.func87, Tryz.ntmps87
  go_wp2
  go_loopw [8] (OrRel x y w) (fun v _ => 2 - (intOf v).toNat)
  case atStart => exact ⟨rfl, .inl rfl⟩
  case round =>
    obtain ⟨rfl, h⟩ := hrel
    rcases h with rfl | ⟨rfl, hx0⟩ | ⟨rfl, hx0, hy0⟩
    · by_cases q : x = 0
      · have d0 : (x != 0) = false := by simpa using q
        go_wp2_with fail
        go_roundw
        case rel => exact ⟨rfl, .inr (.inl ⟨by simp, q⟩)⟩
        case measure => simp [intOf]
      · have d0 : (x != 0) = true := by simpa using q
        go_wp2_with fail
        go_ret
        exact ⟨ret_int (by rw [← HR.out, if_neg q]), rfl⟩
    · by_cases q : y = 0
      · have d0 : (y != 0) = false := by simpa using q
        go_wp2_with fail
        go_roundw
        case rel => exact ⟨rfl, .inr (.inr ⟨by simp, hx0, q⟩)⟩
        case measure => simp [intOf]
      · have d0 : (y != 0) = true := by simpa using q
        go_wp2_with fail
        go_ret
        exact ⟨ret_int (by rw [← HR.out, if_pos hx0]), rfl⟩
    · go_wp2_with fail
      go_ret
      exact ⟨ret_int (by rw [← HR.out, if_pos hx0, hy0]), rfl⟩
theorem cor2_any (x y R : Int) (w : World) (h : R = if x = 0 then y else x) : Calls Tryz.prog 87 #[.slice (some ⟨w.heap.size, 0, none⟩) 2 2] (w.alloc (.cells #[.int .i64 x, .int .i64 y] 3)) fun e w' => e = .returned (.int .i64 R) ∧ Below w.heap.size w w' := by
  rw [h]
  have q := heap_alloc_new w (.cells #[.int .i64 x, .int .i64 y] 3)
  refine (cor_any x y w.heap.size _ (by rw [cell_of_row _ _ _ _ _ _ q]; rfl) (by rw [cell_of_row _ _ _ _ _ _ q]; rfl)).mono ?_
  rintro e w' ⟨rfl, rfl⟩
  exact ⟨rfl, (Below.refl _ _).alloc (Nat.le_refl _) _⟩
theorem scmp_any (a b : ByteArray) (w : World) : Calls Tryz.prog 89 #[.string a, .string b] w fun e w' => e = .returned (.int .i64 (lessL a.data.toList b.data.toList)) ∧ w' = w := by
  rw [← compare_less]
  exact Tryz.strings_Compare a b w
theorem trim_any (a : ByteArray) (w : World) : Calls Tryz.prog 115 #[.string a, .string ⟨#[48]⟩] w fun e w' => e = .returned (.string (mkB (noughts a.data.toList))) ∧ w' = w :=
  Tryz.strings_TrimLeft_one a 48 (by decide) w
set_option maxRecDepth 100000 in
set_option maxHeartbeats 4000000 in
theorem cnum_any (a b : ByteArray) (w : World) (ha : a.size ≤ 60000) (hb : b.size ≤ 60000) :
    Calls Tryz.prog 112 #[.string a, .string b] w fun e w' => e = .returned (.int .i64 (numC a.data.toList b.data.toList)) ∧ Below w.heap.size w w' := by
  have l1 := noughts_le a.data.toList
  have l2 := noughts_le b.data.toList
  rw [size_list] at l1 l2
  have HN := Lib.hid (show numC a.data.toList b.data.toList = if cmpI (noughts a.data.toList).length (noughts b.data.toList).length = 0 then lessL (noughts a.data.toList) (noughts b.data.toList) else cmpI (noughts a.data.toList).length (noughts b.data.toList).length from rfl)
  generalize numC a.data.toList b.data.toList = R at HN ⊢
  go_enter Tryz.func112, Tryz.ntmps112
  go_upto_region 2 with (go_at_call 115; refine (trim_any _ _).mono ?_; rintro e w3 ⟨rfl, hw⟩; subst hw)
  generalize noughts a.data.toList = X at HN l1 ⊢
  generalize noughts b.data.toList = Y at HN l2 ⊢
  have HCs := Lib.hid (fun W => scmp_any (mkB X) (mkB Y) W)
  simp only [mkB_list] at HCs
  have sx : (mkB X).size = X.length := by rw [← size_list, mkB_list]
  have sy : (mkB Y).size = Y.length := by rw [← size_list, mkB_list]
  have HCi := Lib.hid (fun W => cint_any (X.length : Int) (Y.length : Int) W)
  generalize lessL X Y = R2 at HN HCs ⊢
  generalize cmpI (X.length : Int) (Y.length : Int) = R1 at HN HCi ⊢
  go_wp2_with (first
    | (go_at_call 105; refine (HCi.out _).mono ?_; rintro e w3 ⟨rfl, hw⟩; subst hw)
    | (go_at_call 89; refine (HCs.out _).mono ?_; rintro e w3 ⟨rfl, hw⟩; subst hw)
    | (go_at_call 87; refine (cor2_any R1 R2 R _ HN.out).mono ?_; rintro e w4 ⟨rfl, hb⟩; have HB := Lib.hid hb; clear hb))
  go_ret
  exact ⟨rfl, HB.out⟩

def TkRel (s : ByteArray) (w : World) (v : Value) (wr : World) : Prop := wr = w ∧ ∃ k : Nat, k ≤ s.size ∧ v = .int .i64 (k : Int) ∧ Hid (∀ j x, j < k → s.data.toList[j]? = some x → digB x = true)
theorem ext_head (s : ByteArray) (k : Nat) (hk : k ≤ s.size) : s.extract 0 k = mkB (s.data.toList.take k) := by
  rw [ext_seg s 0 k (Nat.zero_le _) hk]
  rfl
theorem tk_end {l : List UInt8} {k : Nat} (hk : k ≤ l.length) (h1 : ∀ j x, j < k → l[j]? = some x → digB x = true) (h2 : ∀ x, l[k]? = some x → digB x = false) : tkN l = k := by
  unfold tkN
  rw [(span_take l k hk h1 h2).1, List.length_take]
  omega
set_option maxRecDepth 100000 in
set_option maxHeartbeats 4000000 in
theorem token_any (s : ByteArray) (w : World) (h0 : 0 < s.size) (hs : s.size ≤ 60000) :
    Calls Tryz.prog 103 #[.string s] w fun e w' => e = .returned (.string (mkB (s.data.toList.take (tkK s.data.toList)))) ∧ w' = w := by
  go_enter Tryz.func103, Tryz.ntmps103
  go_wp2
  go_loopw [3] (TkRel s w) (fun v _ => s.size - (intOf v).toNat)
  case atStart => exact ⟨rfl, 0, Nat.zero_le _, rfl, Lib.hid (fun j x hj => by omega)⟩
  case round =>
    obtain ⟨rfl, k, hk, rfl, HD⟩ := hrel
    by_cases h1 : k < s.size
    · have e1 : decide ((k : Int) < (s.size : Int)) = true := decide_eq_true (by omega)
      obtain ⟨x, hx⟩ : ∃ x, s[k]'h1 = x := ⟨_, rfl⟩
      have HX := Lib.hid (list_at h1)
      rw [hx] at HX
      cases hd : digB x with
      | true =>
        have HDx := Lib.hid (fun W => dig_any x W)
        rw [hd] at HDx
        have HN := Lib.hid (show ∀ j y, j < k + 1 → s.data.toList[j]? = some y → digB y = true from fun j y hj hy => by
          rcases Nat.lt_or_ge j k with q | q
          · exact HD.out j y q hy
          · obtain rfl : j = k := by omega
            rw [HX.out] at hy
            rw [← Option.some.inj hy]
            exact hd)
        clear hd
        go_wp2_with (go_at_call 111; refine (HDx.out _).mono ?_; rintro e w3 ⟨rfl, hw⟩; subst hw)
        go_roundw
        case rel => exact ⟨rfl, k + 1, by omega, by simp, HN⟩
        case measure => simp [intOf]; omega
      | false =>
        have HDx := Lib.hid (fun W => dig_any x W)
        rw [hd] at HDx
        have HK := Lib.hid (tk_end (l := s.data.toList) (k := k) (by rw [size_list]; omega) HD.out (fun y hy => by rw [HX.out] at hy; rw [← Option.some.inj hy]; exact hd))
        clear hd
        go_wp2_with (go_at_call 111; refine (HDx.out _).mono ?_; rintro e w3 ⟨rfl, hw⟩; subst hw)
        go_ret
        refine ⟨?_, rfl⟩
        show Ending.returned (.string (s.extract 0 (max (k : Int) 1).toNat)) = _
        unfold tkK
        rw [show (max (k : Int) 1).toNat = max k 1 from by omega, ext_head s _ (by omega), HK.out]
    · have e1 : decide ((k : Int) < (s.size : Int)) = false := decide_eq_false (by omega)
      have HK := Lib.hid (tk_end (l := s.data.toList) (k := k) (by rw [size_list]; omega) HD.out (fun y hy => by
        have := (List.getElem?_eq_some_iff.1 hy).1
        rw [size_list] at this
        omega))
      go_wp2_with fail
      go_ret
      refine ⟨?_, rfl⟩
      show Ending.returned (.string (s.extract 0 (max (k : Int) 1).toNat)) = _
      unfold tkK
      rw [show (max (k : Int) 1).toNat = max k 1 from by omega, ext_head s _ (by omega), HK.out]
set_option maxRecDepth 100000 in
set_option maxHeartbeats 4000000 in
theorem ctok_any (a b : ByteArray) (x y : UInt8) (A B : List UInt8) (w : World) (ha : a.size ≤ 60000) (hb : b.size ≤ 60000) (hA : a.data.toList = x :: A) (hB : b.data.toList = y :: B) :
    Calls Tryz.prog 104 #[.string a, .string b] w fun e w' => e = .returned (.int .i64 (tokC a.data.toList b.data.toList)) ∧ Below w.heap.size w w' := by
  have HC := Lib.hid (fun W => cnum_any a b W ha hb)
  have a0 : 0 < a.size := by rw [← size_list, hA]; simp
  have b0 : 0 < b.size := by rw [← size_list, hB]; simp
  have hx : a[0]'a0 = x := by
    have := list_at a0
    rw [hA] at this
    exact (Option.some.inj this).symm
  have hy : b[0]'b0 = y := by
    have := list_at b0
    rw [hB] at this
    exact (Option.some.inj this).symm
  have HT := Lib.hid (show tokC a.data.toList b.data.toList = if digB x = true then (if digB y = true then numC a.data.toList b.data.toList else -1) else if digB y = true then 1 else cmpB x y from by rw [hA, hB]; rfl)
  generalize tokC a.data.toList b.data.toList = R at HT ⊢
  generalize numC a.data.toList b.data.toList = R1 at HT HC
  have HDx := Lib.hid (fun W => dig_any x W)
  have HDy := Lib.hid (fun W => dig_any y W)
  have HCb := Lib.hid (fun W => cbyte_any (x.toNat : Int) (y.toNat : Int) W)
  have HCc := Lib.hid (show cmpB x y = cmpI x.toNat y.toNat from rfl)
  rw [HCc.out] at HT
  generalize cmpI (x.toNat : Int) (y.toNat : Int) = R2 at HT HCb
  clear HCc hA hB
  generalize digB x = dx at HT HDx
  generalize digB y = dy at HT HDy
  go_enter Tryz.func104, Tryz.ntmps104
  go_upto_region 1 with fail
  go_quiet (first | (go_at_call 111; first | refine Calls.quiet_of_same (HDx.out _) | refine Calls.quiet_of_same (HDy.out _)))
  have HBd := Lib.hid (show Below w.heap.size w (w.drewN nq) from below_drewNb (Below.refl _ _))
  generalize w.drewN nq = w2 at HBd ⊢
  cases dx with
  | true =>
    rw [if_pos rfl] at HT
    cases dy with
    | true =>
      rw [if_pos rfl] at HT
      go_wp2_with (go_at_call 112; refine (HC.out _).mono ?_; rintro e w3 ⟨rfl, hb⟩; have HB3 := Lib.hid (below_two HBd.out hb); clear hb)
      go_ret
      exact ⟨ret_int HT.out.symm, HB3.out⟩
    | false =>
      rw [if_neg (by decide)] at HT
      go_wp2_with fail
      go_ret
      exact ⟨ret_int HT.out.symm, HBd.out⟩
  | false =>
    rw [if_neg (by decide)] at HT
    cases dy with
    | true =>
      rw [if_pos rfl] at HT
      go_wp2_with fail
      go_ret
      exact ⟨ret_int HT.out.symm, HBd.out⟩
    | false =>
      rw [if_neg (by decide)] at HT
      go_upto_region 8 with fail
      go_quiet (first | (go_at_call 113; refine Calls.quiet_of_same (HCb.out _)))
      have HBe := Lib.hid (show Below w.heap.size w (w2.drewN nq) from below_drewNb HBd.out)
      generalize w2.drewN nq = w3 at HBe ⊢
      go_wp2_with fail
      go_ret
      exact ⟨ret_int HT.out.symm, HBe.out⟩
end Go.Proofs.YtcjbnjoomgagjaaGreatDoor.O
