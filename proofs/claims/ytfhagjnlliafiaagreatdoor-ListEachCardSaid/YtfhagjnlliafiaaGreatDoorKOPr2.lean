/-
  What the program's small functions of layer 10 return.
  Conditions: each fact's own.
-/
import Derived.Test.YtfhagjnlliafiaaGreatDoorKOPlM
import Derived.Test.YtfhagjnlliafiaaGreatDoorKOCmp
import Derived.Test.YtfhagjnlliafiaaGreatDoorShelf
set_option linter.unusedVariables false
set_option maxHeartbeats 8000000
set_option maxRecDepth 100000
namespace Go.Proofs.YtfhagjnlliafiaaGreatDoor.O
open Go.Proofs.YtfhagjnlliafiaaGreatDoor.B
open Go.RowKit
theorem dig_any (b : UInt8) (w : World) : Calls Tryz.prog 193 #[.int .u8 (b.toNat : Int)] w fun e w' => e = .returned (.bool (digB b)) ∧ w' = w := by
  have HD := Lib.hid (show digB b = (decide (48 ≤ b.toNat) && decide (b.toNat ≤ 57)) from rfl)
  go_enter Tryz.func193, Tryz.ntmps193
  by_cases h1 : 48 ≤ b.toNat
  · have d1 : decide ((48 : Int) ≤ (b.toNat : Int)) = true := decide_eq_true (by omega)
    by_cases h2 : b.toNat ≤ 57
    · have d2 : decide ((b.toNat : Int) ≤ 57) = true := decide_eq_true (by omega)
      rw [decide_eq_true h1, decide_eq_true h2] at HD
      go_wp2
      go_ret
      exact ⟨ret_bool (by rw [HD.out]; rfl), rfl⟩
    · have d2 : decide ((b.toNat : Int) ≤ 57) = false := decide_eq_false (by omega)
      rw [decide_eq_true h1, decide_eq_false h2] at HD
      go_wp2
      go_ret
      exact ⟨ret_bool (by rw [HD.out]; rfl), rfl⟩
  · have d1 : decide ((48 : Int) ≤ (b.toNat : Int)) = false := decide_eq_false (by omega)
    rw [decide_eq_false h1] at HD
    go_wp2
    go_ret
    exact ⟨ret_bool (by rw [HD.out]; rfl), rfl⟩
theorem nan_int (x : Int) (w : World) : Calls Tryz.prog 196 #[.int .i64 x] w fun e w' => e = .returned (.bool false) ∧ w' = w := by
  go_enter Tryz.func196, Tryz.ntmps196
  go_wp2
  go_ret
  exact ⟨by simp, rfl⟩
theorem nan_int64 (x : Int) (w : World) : Calls Tryz.prog 172 #[.int .i64 x] w fun e w' => e = .returned (.bool false) ∧ w' = w := by
  go_enter Tryz.func172, Tryz.ntmps172
  go_wp2
  go_ret
  exact ⟨by simp, rfl⟩
theorem nan_byte (x : Int) (w : World) : Calls Tryz.prog 204 #[.int .u8 x] w fun e w' => e = .returned (.bool false) ∧ w' = w := by
  go_enter Tryz.func204, Tryz.ntmps204
  go_wp2
  go_ret
  exact ⟨by simp, rfl⟩
theorem cint_any (x y : Int) (w : World) : Calls Tryz.prog 176 #[.int .i64 x, .int .i64 y] w fun e w' => e = .returned (.int .i64 (cmpI x y)) ∧ w' = w := by
  have HC := Lib.hid (show cmpI x y = if x < y then -1 else if y < x then 1 else 0 from rfl)
  go_enter Tryz.func176, Tryz.ntmps176
  by_cases h1 : x < y
  · rw [if_pos h1] at HC
    go_wp2_with (go_at_call 196; refine (nan_int _ _).mono ?_; rintro e w3 ⟨rfl, hw⟩; subst hw)
    go_ret
    exact ⟨ret_int HC.out.symm, rfl⟩
  · rw [if_neg h1] at HC
    by_cases h2 : y < x
    · rw [if_pos h2] at HC
      go_wp2_with (go_at_call 196; refine (nan_int _ _).mono ?_; rintro e w3 ⟨rfl, hw⟩; subst hw)
      go_ret
      exact ⟨ret_int HC.out.symm, rfl⟩
    · rw [if_neg h2] at HC
      go_wp2_with (go_at_call 196; refine (nan_int _ _).mono ?_; rintro e w3 ⟨rfl, hw⟩; subst hw)
      go_ret
      exact ⟨ret_int HC.out.symm, rfl⟩
theorem cint64_any (x y : Int) (w : World) : Calls Tryz.prog 146 #[.int .i64 x, .int .i64 y] w fun e w' => e = .returned (.int .i64 (cmpI x y)) ∧ w' = w := by
  have HC := Lib.hid (show cmpI x y = if x < y then -1 else if y < x then 1 else 0 from rfl)
  go_enter Tryz.func146, Tryz.ntmps146
  by_cases h1 : x < y
  · rw [if_pos h1] at HC
    go_wp2_with (go_at_call 172; refine (nan_int64 _ _).mono ?_; rintro e w3 ⟨rfl, hw⟩; subst hw)
    go_ret
    exact ⟨ret_int HC.out.symm, rfl⟩
  · rw [if_neg h1] at HC
    by_cases h2 : y < x
    · rw [if_pos h2] at HC
      go_wp2_with (go_at_call 172; refine (nan_int64 _ _).mono ?_; rintro e w3 ⟨rfl, hw⟩; subst hw)
      go_ret
      exact ⟨ret_int HC.out.symm, rfl⟩
    · rw [if_neg h2] at HC
      go_wp2_with (go_at_call 172; refine (nan_int64 _ _).mono ?_; rintro e w3 ⟨rfl, hw⟩; subst hw)
      go_ret
      exact ⟨ret_int HC.out.symm, rfl⟩
theorem cbyte_any (x y : Int) (w : World) : Calls Tryz.prog 195 #[.int .u8 x, .int .u8 y] w fun e w' => e = .returned (.int .i64 (cmpI x y)) ∧ w' = w := by
  have HC := Lib.hid (show cmpI x y = if x < y then -1 else if y < x then 1 else 0 from rfl)
  go_enter Tryz.func195, Tryz.ntmps195
  by_cases h1 : x < y
  · rw [if_pos h1] at HC
    go_wp2_with (go_at_call 204; refine (nan_byte _ _).mono ?_; rintro e w3 ⟨rfl, hw⟩; subst hw)
    go_ret
    exact ⟨ret_int HC.out.symm, rfl⟩
  · rw [if_neg h1] at HC
    by_cases h2 : y < x
    · rw [if_pos h2] at HC
      go_wp2_with (go_at_call 204; refine (nan_byte _ _).mono ?_; rintro e w3 ⟨rfl, hw⟩; subst hw)
      go_ret
      exact ⟨ret_int HC.out.symm, rfl⟩
    · rw [if_neg h2] at HC
      go_wp2_with (go_at_call 204; refine (nan_byte _ _).mono ?_; rintro e w3 ⟨rfl, hw⟩; subst hw)
      go_ret
      exact ⟨ret_int HC.out.symm, rfl⟩
def OrRel (x y : Int) (w : World) (v : Value) (wr : World) : Prop := wr = w ∧ ((v = .int .i64 0) ∨ (v = .int .i64 1 ∧ x = 0) ∨ (v = .int .i64 2 ∧ x = 0 ∧ y = 0))
theorem cor_any (x y : Int) (g : Nat) (w : World) (hx : w.cell? ⟨g, 0, none⟩ = some (.int .i64 x)) (hy : w.cell? ⟨g, 1, none⟩ = some (.int .i64 y)) :
    Calls Tryz.prog 124 #[.slice (some ⟨g, 0, none⟩) 2 2] w fun e w' => e = .returned (.int .i64 (if x = 0 then y else x)) ∧ w' = w := by
  obtain ⟨R, hR⟩ : ∃ R, (if x = 0 then y else x) = R := ⟨_, rfl⟩
  have HR := Lib.hid hR
  rw [hR]
  clear hR
  go_enter Tryz.func124, Tryz.ntmps124
  go_wp2
  go_loopw [8] (OrRel x y w) (fun v _ => 2 - (intOf v).toNat)
  case atStart => exact ⟨rfl, .inl rfl⟩
  case round =>
    obtain ⟨rfl, h⟩ := hrel
    rcases h with rfl | ⟨rfl, hx0⟩ | ⟨rfl, hx0, hy0⟩
    · by_cases q : x = 0
      · have d0 : (x != 0) = false := by simpa using q
        go_wp2_with fail
        go_roundw
        case rel => exact ⟨rfl, .inr (.inl ⟨by simp, q⟩)⟩
        case measure => simp [intOf]
      · have d0 : (x != 0) = true := by simpa using q
        go_wp2_with fail
        go_ret
        exact ⟨ret_int (by rw [← HR.out, if_neg q]), rfl⟩
    · by_cases q : y = 0
      · have d0 : (y != 0) = false := by simpa using q
        go_wp2_with fail
        go_roundw
        case rel => exact ⟨rfl, .inr (.inr ⟨by simp, hx0, q⟩)⟩
        case measure => simp [intOf]
      · have d0 : (y != 0) = true := by simpa using q
        go_wp2_with fail
        go_ret
        exact ⟨ret_int (by rw [← HR.out, if_pos hx0]), rfl⟩
    · go_wp2_with fail
      go_ret
      exact ⟨ret_int (by rw [← HR.out, if_pos hx0, hy0]), rfl⟩
theorem cor2_any (x y R : Int) (w : World) (h : R = if x = 0 then y else x) : Calls Tryz.prog 124 #[.slice (some ⟨w.heap.size, 0, none⟩) 2 2] (w.alloc (.cells #[.int .i64 x, .int .i64 y] 3)) fun e w' => e = .returned (.int .i64 R) ∧ Below w.heap.size w w' := by
  rw [h]
  have q := heap_alloc_new w (.cells #[.int .i64 x, .int .i64 y] 3)
  refine (cor_any x y w.heap.size _ (by rw [cell_of_row _ _ _ _ _ _ q]; rfl) (by rw [cell_of_row _ _ _ _ _ _ q]; rfl)).mono ?_
  rintro e w' ⟨rfl, rfl⟩
  exact ⟨rfl, (Below.refl _ _).alloc (Nat.le_refl _) _⟩
theorem scmp_any (a b : ByteArray) (w : World) : Calls Tryz.prog 126 #[.string a, .string b] w fun e w' => e = .returned (.int .i64 (lessL a.data.toList b.data.toList)) ∧ w' = w := by
  rw [← compare_less]
  exact Tryz.strings_Compare a b w
theorem trim_any (a : ByteArray) (w : World) : Calls Tryz.prog 203 #[.string a, .string ⟨#[48]⟩] w fun e w' => e = .returned (.string (mkB (noughts a.data.toList))) ∧ w' = w :=
  Tryz.strings_TrimLeft_one a 48 (by decide) w
theorem cnum_any (a b : ByteArray) (w : World) (ha : a.size ≤ 60000) (hb : b.size ≤ 60000) :
    Calls Tryz.prog 194 #[.string a, .string b] w fun e w' => e = .returned (.int .i64 (numC a.data.toList b.data.toList)) ∧ Below w.heap.size w w' := by
  have l1 := noughts_le a.data.toList
  have l2 := noughts_le b.data.toList
  rw [size_list] at l1 l2
  have HN := Lib.hid (show numC a.data.toList b.data.toList = if cmpI (noughts a.data.toList).length (noughts b.data.toList).length = 0 then lessL (noughts a.data.toList) (noughts b.data.toList) else cmpI (noughts a.data.toList).length (noughts b.data.toList).length from rfl)
  generalize numC a.data.toList b.data.toList = R at HN ⊢
  go_enter Tryz.func194, Tryz.ntmps194
  go_upto_region 2 with (go_at_call 203; refine (trim_any _ _).mono ?_; rintro e w3 ⟨rfl, hw⟩; subst hw)
  generalize noughts a.data.toList = X at HN l1 ⊢
  generalize noughts b.data.toList = Y at HN l2 ⊢
  have HCs := Lib.hid (fun W => scmp_any (mkB X) (mkB Y) W)
  simp only [mkB_list] at HCs
  have sx : (mkB X).size = X.length := by rw [← size_list, mkB_list]
  have sy : (mkB Y).size = Y.length := by rw [← size_list, mkB_list]
  have HCi := Lib.hid (fun W => cint_any (X.length : Int) (Y.length : Int) W)
  generalize lessL X Y = R2 at HN HCs ⊢
  generalize cmpI (X.length : Int) (Y.length : Int) = R1 at HN HCi ⊢
  go_wp2_with (first
    | (go_at_call 176; refine (HCi.out _).mono ?_; rintro e w3 ⟨rfl, hw⟩; subst hw)
    | (go_at_call 126; refine (HCs.out _).mono ?_; rintro e w3 ⟨rfl, hw⟩; subst hw)
    | (go_at_call 124; refine (cor2_any R1 R2 R _ HN.out).mono ?_; rintro e w4 ⟨rfl, hb⟩; have HB := Lib.hid hb; clear hb))
  go_ret
  exact ⟨rfl, HB.out⟩
def TkRel (s : ByteArray) (w : World) (v : Value) (wr : World) : Prop := wr = w ∧ ∃ k : Nat, k ≤ s.size ∧ v = .int .i64 (k : Int) ∧ Hid (∀ j x, j < k → s.data.toList[j]? = some x → digB x = true)
theorem ext_head (s : ByteArray) (k : Nat) (hk : k ≤ s.size) : s.extract 0 k = mkB (s.data.toList.take k) := by
  rw [ext_seg s 0 k (Nat.zero_le _) hk]
  rfl
theorem tk_end {l : List UInt8} {k : Nat} (hk : k ≤ l.length) (h1 : ∀ j x, j < k → l[j]? = some x → digB x = true) (h2 : ∀ x, l[k]? = some x → digB x = false) : tkN l = k := by
  unfold tkN
  rw [(span_take l k hk h1 h2).1, List.length_take]
  omega
theorem token_any (s : ByteArray) (w : World) (h0 : 0 < s.size) (hs : s.size ≤ 60000) :
    Calls Tryz.prog 174 #[.string s] w fun e w' => e = .returned (.string (mkB (s.data.toList.take (tkK s.data.toList)))) ∧ w' = w := by
  go_enter Tryz.func174, Tryz.ntmps174
  go_wp2
  go_loopw [3] (TkRel s w) (fun v _ => s.size - (intOf v).toNat)
  case atStart => exact ⟨rfl, 0, Nat.zero_le _, rfl, Lib.hid (fun j x hj => by omega)⟩
  case round =>
    obtain ⟨rfl, k, hk, rfl, HD⟩ := hrel
    by_cases h1 : k < s.size
    · have e1 : decide ((k : Int) < (s.size : Int)) = true := decide_eq_true (by omega)
      obtain ⟨x, hx⟩ : ∃ x, s[k]'h1 = x := ⟨_, rfl⟩
      have HX := Lib.hid (list_at h1)
      rw [hx] at HX
      cases hd : digB x with
      | true =>
        have HDx := Lib.hid (fun W => dig_any x W)
        rw [hd] at HDx
        have HN := Lib.hid (show ∀ j y, j < k + 1 → s.data.toList[j]? = some y → digB y = true from fun j y hj hy => by
          rcases Nat.lt_or_ge j k with q | q
          · exact HD.out j y q hy
          · obtain rfl : j = k := by omega
            rw [HX.out] at hy
            rw [← Option.some.inj hy]
            exact hd)
        clear hd
        go_wp2_with (go_at_call 193; refine (HDx.out _).mono ?_; rintro e w3 ⟨rfl, hw⟩; subst hw)
        go_roundw
        case rel => exact ⟨rfl, k + 1, by omega, by simp, HN⟩
        case measure => simp [intOf]; omega
      | false =>
        have HDx := Lib.hid (fun W => dig_any x W)
        rw [hd] at HDx
        have HK := Lib.hid (tk_end (l := s.data.toList) (k := k) (by rw [size_list]; omega) HD.out (fun y hy => by rw [HX.out] at hy; rw [← Option.some.inj hy]; exact hd))
        clear hd
        go_wp2_with (go_at_call 193; refine (HDx.out _).mono ?_; rintro e w3 ⟨rfl, hw⟩; subst hw)
        go_ret
        refine ⟨?_, rfl⟩
        show Ending.returned (.string (s.extract 0 (max (k : Int) 1).toNat)) = _
        unfold tkK
        rw [show (max (k : Int) 1).toNat = max k 1 from by omega, ext_head s _ (by omega), HK.out]
    · have e1 : decide ((k : Int) < (s.size : Int)) = false := decide_eq_false (by omega)
      have HK := Lib.hid (tk_end (l := s.data.toList) (k := k) (by rw [size_list]; omega) HD.out (fun y hy => by
        have := (List.getElem?_eq_some_iff.1 hy).1
        rw [size_list] at this
        omega))
      go_wp2_with fail
      go_ret
      refine ⟨?_, rfl⟩
      show Ending.returned (.string (s.extract 0 (max (k : Int) 1).toNat)) = _
      unfold tkK
      rw [show (max (k : Int) 1).toNat = max k 1 from by omega, ext_head s _ (by omega), HK.out]
theorem ctok_any (a b : ByteArray) (x y : UInt8) (A B : List UInt8) (w : World) (ha : a.size ≤ 60000) (hb : b.size ≤ 60000) (hA : a.data.toList = x :: A) (hB : b.data.toList = y :: B) :
    Calls Tryz.prog 175 #[.string a, .string b] w fun e w' => e = .returned (.int .i64 (tokC a.data.toList b.data.toList)) ∧ Below w.heap.size w w' := by
  have HC := Lib.hid (fun W => cnum_any a b W ha hb)
  have a0 : 0 < a.size := by rw [← size_list, hA]; simp
  have b0 : 0 < b.size := by rw [← size_list, hB]; simp
  have hx : a[0]'a0 = x := by
    have := list_at a0
    rw [hA] at this
    exact (Option.some.inj this).symm
  have hy : b[0]'b0 = y := by
    have := list_at b0
    rw [hB] at this
    exact (Option.some.inj this).symm
  have HT := Lib.hid (show tokC a.data.toList b.data.toList = if digB x = true then (if digB y = true then numC a.data.toList b.data.toList else -1) else if digB y = true then 1 else cmpB x y from by rw [hA, hB]; rfl)
  generalize tokC a.data.toList b.data.toList = R at HT ⊢
  generalize numC a.data.toList b.data.toList = R1 at HT HC
  have HDx := Lib.hid (fun W => dig_any x W)
  have HDy := Lib.hid (fun W => dig_any y W)
  have HCb := Lib.hid (fun W => cbyte_any (x.toNat : Int) (y.toNat : Int) W)
  have HCc := Lib.hid (show cmpB x y = cmpI x.toNat y.toNat from rfl)
  rw [HCc.out] at HT
  generalize cmpI (x.toNat : Int) (y.toNat : Int) = R2 at HT HCb
  clear HCc hA hB
  generalize digB x = dx at HT HDx
  generalize digB y = dy at HT HDy
  go_enter Tryz.func175, Tryz.ntmps175
  go_upto_region 1 with fail
  go_quiet (first | (go_at_call 193; first | refine Calls.quiet_of_same (HDx.out _) | refine Calls.quiet_of_same (HDy.out _)))
  have HBd := Lib.hid (show Below w.heap.size w (w.drewN nq) from below_drewNb (Below.refl _ _))
  generalize w.drewN nq = w2 at HBd ⊢
  cases dx with
  | true =>
    rw [if_pos rfl] at HT
    cases dy with
    | true =>
      rw [if_pos rfl] at HT
      go_wp2_with (go_at_call 194; refine (HC.out _).mono ?_; rintro e w3 ⟨rfl, hb⟩; have HB3 := Lib.hid (below_two HBd.out hb); clear hb)
      go_ret
      exact ⟨ret_int HT.out.symm, HB3.out⟩
    | false =>
      rw [if_neg (by decide)] at HT
      go_wp2_with fail
      go_ret
      exact ⟨ret_int HT.out.symm, HBd.out⟩
  | false =>
    rw [if_neg (by decide)] at HT
    cases dy with
    | true =>
      rw [if_pos rfl] at HT
      go_wp2_with fail
      go_ret
      exact ⟨ret_int HT.out.symm, HBd.out⟩
    | false =>
      rw [if_neg (by decide)] at HT
      go_upto_region 8 with fail
      go_quiet (first | (go_at_call 195; refine Calls.quiet_of_same (HCb.out _)))
      have HBe := Lib.hid (show Below w.heap.size w (w2.drewN nq) from below_drewNb HBd.out)
      generalize w2.drewN nq = w3 at HBe ⊢
      go_wp2_with fail
      go_ret
      exact ⟨ret_int HT.out.symm, HBe.out⟩
end Go.Proofs.YtfhagjnlliafiaaGreatDoor.O
namespace Go.Proofs.YtfhagjnlliafiaaGreatDoor.O
open Go.Proofs.YtfhagjnlliafiaaGreatDoor.B
open Go.RowKit
theorem pext_any (a : ByteArray) (w : World) (ha : a.size ≤ 60000) :
    Calls Tryz.prog 147 #[.string a] w fun e w' => e = .returned (.string (mkB (extL a.data.toList))) ∧ w' = w := by
  have HE := Lib.hid (ext_last a)
  have HL := Lib.hid (fun W => Tryz.strings_LastIndexByte a 46 (by omega) W)
  have hb : Lib.lastIndexByte a 46 < (a.size : Int) := by
    rcases Lib.lastIndexByte_spec a 46 with ⟨h, _⟩ | ⟨i, h1, h2, _⟩
    · omega
    · omega
  generalize Lib.lastIndexByte a 46 = p at HE HL hb
  go_enter Tryz.func147, Tryz.ntmps147
  by_cases h1 : p < 1
  · have d1 : decide (p < 1) = true := decide_eq_true h1
    rw [if_pos h1] at HE
    go_wp2_with (go_at_call 173; refine (HL.out _).mono ?_; rintro e w3 ⟨rfl, hw⟩; subst hw)
    go_ret
    exact ⟨by rw [HE.out]; rfl, rfl⟩
  · rw [if_neg h1] at HE
    have d1 : decide (p < 1) = false := decide_eq_false h1
    obtain ⟨k, rfl⟩ : ∃ k : Nat, p = (k : Int) := ⟨p.toNat, by omega⟩
    have HT := Lib.hid (ext_tail a k)
    go_wp2_with (go_at_call 173; refine (HL.out _).mono ?_; rintro e w3 ⟨rfl, hw⟩; subst hw)
    go_ret
    exact ⟨by rw [HE.out, Int.toNat_natCast, ← HT.out]; rfl, rfl⟩
theorem str_ne' (a : ByteArray) (h : 0 < a.size) : a.data ≠ #[] ∧ (a.toList == []) = false ∧ a.toList ≠ [] := by
  have h1 : a.data.toList ≠ [] := fun z => by rw [← size_list, z] at h; exact absurd h (by decide)
  have h2 : a.toList ≠ [] := fun z => by
    rw [Lib.toList_data] at z
    exact h1 z
  exact ⟨fun z => h1 (by rw [z]), beq_eq_false_iff_ne.2 h2, h2⟩
theorem emp_of (a : ByteArray) (h : a.size = 0) : a = ⟨#[]⟩ := by
  apply ByteArray.ext
  exact Array.eq_empty_of_size_eq_zero h
def szV : Value → Nat
  | .string s => s.size
  | _ => 0
def PVRel (a b : ByteArray) (w : World) (v0 v1 : Value) (wr : World) : Prop :=
  ∃ x y : ByteArray, v0 = .string x ∧ v1 = .string y ∧ x.size ≤ 60000 ∧ y.size ≤ 60000 ∧ Hid (verL a.data.toList b.data.toList = verL x.data.toList y.data.toList) ∧ Hid (Below w.heap.size w wr)
theorem list_cons {s : ByteArray} (h : 0 < s.size) : ∃ x A, s.data.toList = x :: A := by
  cases e : s.data.toList with
  | nil => rw [← size_list, e] at h; exact absurd h (by decide)
  | cons x A => exact ⟨x, A, rfl⟩
theorem take_size (s : ByteArray) (k : Nat) (hk : k ≤ s.size) : (mkB (s.data.toList.take k)).size = k := by
  rw [← size_list, mkB_list, List.length_take, size_list]
  omega
theorem tkK_le {l : List UInt8} (h : 0 < l.length) : tkK l ≤ l.length := by
  have := tkN_le l
  unfold tkK
  omega
theorem tkK_pos (l : List UInt8) : 0 < tkK l := by unfold tkK; omega
theorem ver_drop (x y : ByteArray) (hx : 0 < x.size) (hy : 0 < y.size) (lx : x.size ≤ 60000) (ly : y.size ≤ 60000) : verL x.data.toList y.data.toList = if tokC (x.data.toList.take (tkK x.data.toList)) (y.data.toList.take (tkK y.data.toList)) = 0 then verL (x.extract (tkK x.data.toList) x.size).data.toList (y.extract (tkK y.data.toList) y.size).data.toList else tokC (x.data.toList.take (tkK x.data.toList)) (y.data.toList.take (tkK y.data.toList)) := by
  have sx := size_list x
  have sy := size_list y
  rw [ext_tail, ext_tail, mkB_list, mkB_list]
  obtain ⟨a, A, hA⟩ := list_cons hx
  obtain ⟨b, B, hB⟩ := list_cons hy
  rw [hA] at sx ⊢
  rw [hB] at sy ⊢
  exact ver_step a A b B (by omega) (by omega)
theorem over_any' (a b : ByteArray) (w : World) (ha : a.size ≤ 60000) (hb : b.size ≤ 60000) :
    Calls Tryz.prog 148 #[.string a, .string b] w fun e w' => e = .returned (.int .i64 (verL a.data.toList b.data.toList)) ∧ Below w.heap.size w w' := by
  go_enter Tryz.func148, Tryz.ntmps148
  go_wp2
  go_loopw [0, 1] (PVRel a b w) (fun v _ _ => szV v)
  case atStart => exact ⟨a, b, rfl, rfl, ha, hb, Lib.hid rfl, Lib.hid (Below.refl _ _)⟩
  case round =>
    obtain ⟨x, y, rfl, rfl, lx, ly, HV, HB⟩ := hrel
    by_cases h1 : 0 < x.size
    · have n1 := str_ne' x h1
      by_cases h2 : 0 < y.size
      · have n2 := str_ne' y h2
        have HS := Lib.hid (HV.out.trans (ver_drop x y h1 h2 lx ly))
        obtain ⟨c, A, hA⟩ := list_cons h1
        obtain ⟨d, B, hB⟩ := list_cons h2
        have kx := tkK_le (l := x.data.toList) (by rw [size_list]; exact h1)
        have ky := tkK_le (l := y.data.toList) (by rw [size_list]; exact h2)
        have px := tkK_pos x.data.toList
        have py := tkK_pos y.data.toList
        rw [size_list] at kx ky
        have HTx := Lib.hid (fun W => token_any x W h1 lx)
        have HTy := Lib.hid (fun W => token_any y W h2 ly)
        have qx := take_size x _ kx
        have qy := take_size y _ ky
        have HC := Lib.hid (fun W => ctok_any (mkB (x.data.toList.take (tkK x.data.toList))) (mkB (y.data.toList.take (tkK y.data.toList))) c d (A.take (tkK x.data.toList - 1)) (B.take (tkK y.data.toList - 1)) W (by omega) (by omega)
          (by rw [mkB_list, hA]; obtain ⟨m, hm⟩ : ∃ m, tkK (c :: A) = m + 1 := ⟨tkK (c :: A) - 1, by have := tkK_pos (c :: A); omega⟩; rw [hm]; rfl)
          (by rw [mkB_list, hB]; obtain ⟨m, hm⟩ : ∃ m, tkK (d :: B) = m + 1 := ⟨tkK (d :: B) - 1, by have := tkK_pos (d :: B); omega⟩; rw [hm]; rfl))
        simp only [mkB_list] at HC
        clear hA hB HV
        generalize tokC (x.data.toList.take (tkK x.data.toList)) (y.data.toList.take (tkK y.data.toList)) = C at HS HC
        generalize mkB (x.data.toList.take (tkK x.data.toList)) = tx at HTx HC qx
        generalize mkB (y.data.toList.take (tkK y.data.toList)) = ty at HTy HC qy
        generalize tkK x.data.toList = kx0 at *
        generalize tkK y.data.toList = ky0 at *
        by_cases q : C = 0
        · rw [if_pos q] at HS
          have d0 : (C != 0) = false := by simpa using q
          go_wp2_with fail
          refine (HTx.out _).mono ?_
          rintro e w3 ⟨rfl, hw⟩
          subst hw
          go_wp2_with fail
          refine (HTy.out _).mono ?_
          rintro e w3 ⟨rfl, hw⟩
          subst hw
          go_upto_region 6 with (go_at_call 175; refine (HC.out _).mono ?_; rintro e w4 ⟨rfl, hb⟩; have HB4 := Lib.hid (below_two HB.out hb); clear hb)
          go_quiet (fail)
          have HB5 := Lib.hid (show Below w.heap.size w (w4.drewN nq) from below_drewNb HB4.out)
          generalize w4.drewN nq = w5 at HB5 ⊢
          have ex : (x.extract kx0 x.size).size = x.size - kx0 := by rw [ByteArray.size_extract]; omega
          have ey : (y.extract ky0 y.size).size = y.size - ky0 := by rw [ByteArray.size_extract]; omega
          go_wp2
          go_roundw
          case rel => exact ⟨_, _, rfl, rfl, by omega, by omega, HS, HB5⟩
          case measure => show (x.extract kx0 x.size).size < x.size; omega
        · rw [if_neg q] at HS
          have d0 : (C != 0) = true := by simpa using q
          go_wp2_with fail
          refine (HTx.out _).mono ?_
          rintro e w3 ⟨rfl, hw⟩
          subst hw
          go_wp2_with fail
          refine (HTy.out _).mono ?_
          rintro e w3 ⟨rfl, hw⟩
          subst hw
          go_wp2_with (go_at_call 175; refine (HC.out _).mono ?_; rintro e w4 ⟨rfl, hb⟩; have HB4 := Lib.hid (below_two HB.out hb); clear hb)
          go_ret
          exact ⟨ret_int HS.out.symm, HB4.out⟩
      · obtain rfl := emp_of y (by omega)
        have HE := Lib.hid (HV.out.trans (ver_end (.inr rfl)))
        rw [size_list] at HE
        have HCi := Lib.hid (fun W => cint_any (x.size : Int) 0 W)
        clear HV
        go_wp2_with (go_at_call 176; refine (HCi.out _).mono ?_; rintro e w3 ⟨rfl, hw⟩; subst hw)
        go_ret
        exact ⟨ret_int HE.out.symm, HB.out⟩
    · obtain rfl := emp_of x (by omega)
      have HE := Lib.hid (HV.out.trans (ver_end (.inl rfl)))
      rw [size_list] at HE
      have HCi := Lib.hid (fun W => cint_any 0 (y.size : Int) W)
      clear HV
      go_wp2_with (go_at_call 176; refine (HCi.out _).mono ?_; rintro e w3 ⟨rfl, hw⟩; subst hw)
      go_ret
      exact ⟨ret_int HE.out.symm, HB.out⟩
end Go.Proofs.YtfhagjnlliafiaaGreatDoor.O
