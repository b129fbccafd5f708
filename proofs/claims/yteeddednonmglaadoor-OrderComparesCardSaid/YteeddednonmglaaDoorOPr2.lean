/-
  What the program's Ext and Version return. Conditions: texts of at most 60000 bytes.
-/
import Derived.Test.YteeddednonmglaaDoorOPr1
set_option linter.unusedVariables false
namespace Go.Proofs.YteeddednonmglaaDoor
open Go.RowKit

set_option maxRecDepth 100000 in
set_option maxHeartbeats 4000000 in
theorem pext_any (a : ByteArray) (w : World) (ha : a.size ≤ 60000) :
    Calls Tryd.prog 13 #[.string a] w fun e w' => e = .returned (.string (mkB (extL a.data.toList))) ∧ w' = w := by
  have HE := Lib.hid (ext_last a)
  have HL := Lib.hid (fun W => Tryd.strings_LastIndexByte a 46 (by omega) W)
  have hb : Lib.lastIndexByte a 46 < (a.size : Int) := by
    rcases Lib.lastIndexByte_spec a 46 with ⟨h, _⟩ | ⟨i, h1, h2, _⟩
    · omega
    · omega
  generalize Lib.lastIndexByte a 46 = p at HE HL hb
  go_enter Tryd.func13, Tryd.ntmps13
  by_cases h1 : p < 1
  · have d1 : decide (p < 1) = true := decide_eq_true h1
    rw [if_pos h1] at HE
    go_wp2_with (go_at_call 26; refine (HL.out _).mono ?_; rintro e w3 ⟨rfl, hw⟩; subst hw)
    go_ret
    exact ⟨by rw [HE.out]; rfl, rfl⟩
  · rw [if_neg h1] at HE
    have d1 : decide (p < 1) = false := decide_eq_false h1
    obtain ⟨k, rfl⟩ : ∃ k : Nat, p = (k : Int) := ⟨p.toNat, by omega⟩
    have HT := Lib.hid (ext_tail a k)
    go_wp2_with (go_at_call 26; refine (HL.out _).mono ?_; rintro e w3 ⟨rfl, hw⟩; subst hw)
    go_ret
    exact ⟨by rw [HE.out, Int.toNat_natCast, ← HT.out]; rfl, rfl⟩

theorem str_ne' (a : ByteArray) (h : 0 < a.size) : a.data ≠ #[] ∧ (a.toList == []) = false ∧ a.toList ≠ [] := by
  have h1 : a.data.toList ≠ [] := fun z => by rw [← size_list, z] at h; exact absurd h (by decide)
  have h2 : a.toList ≠ [] := fun z => by
    rw [Lib.toList_data] at z
    exact h1 z
  exact ⟨fun z => h1 (by rw [z]), beq_eq_false_iff_ne.2 h2, h2⟩
theorem emp_of (a : ByteArray) (h : a.size = 0) : a = ⟨#[]⟩ := by
  apply ByteArray.ext
  exact Array.eq_empty_of_size_eq_zero h
def szV : Value → Nat
  | .string s => s.size
  | _ => 0
def PVRel (a b : ByteArray) (w : World) (v0 v1 : Value) (wr : World) : Prop :=
  ∃ x y : ByteArray, v0 = .string x ∧ v1 = .string y ∧ x.size ≤ 60000 ∧ y.size ≤ 60000 ∧ Hid (verL a.data.toList b.data.toList = verL x.data.toList y.data.toList) ∧ Hid (Below w.heap.size w wr)
theorem list_cons {s : ByteArray} (h : 0 < s.size) : ∃ x A, s.data.toList = x :: A := by
  cases e : s.data.toList with
  | nil => rw [← size_list, e] at h; exact absurd h (by decide)
  | cons x A => exact ⟨x, A, rfl⟩
theorem take_size (s : ByteArray) (k : Nat) (hk : k ≤ s.size) : (mkB (s.data.toList.take k)).size = k := by
  rw [← size_list, mkB_list, List.length_take, size_list]
  omega
theorem tkK_le {l : List UInt8} (h : 0 < l.length) : tkK l ≤ l.length := by
  have := tkN_le l
  unfold tkK
  omega
theorem tkK_pos (l : List UInt8) : 0 < tkK l := by unfold tkK; omega
theorem ver_drop (x y : ByteArray) (hx : 0 < x.size) (hy : 0 < y.size) (lx : x.size ≤ 60000) (ly : y.size ≤ 60000) : verL x.data.toList y.data.toList = if tokC (x.data.toList.take (tkK x.data.toList)) (y.data.toList.take (tkK y.data.toList)) = 0 then verL (x.extract (tkK x.data.toList) x.size).data.toList (y.extract (tkK y.data.toList) y.size).data.toList else tokC (x.data.toList.take (tkK x.data.toList)) (y.data.toList.take (tkK y.data.toList)) := by
  have sx := size_list x
  have sy := size_list y
  rw [ext_tail, ext_tail, mkB_list, mkB_list]
  obtain ⟨a, A, hA⟩ := list_cons hx
  obtain ⟨b, B, hB⟩ := list_cons hy
  rw [hA] at sx ⊢
  rw [hB] at sy ⊢
  exact ver_step a A b B (by omega) (by omega)
set_option maxRecDepth 100000 in
set_option maxHeartbeats 8000000 in
theorem over_any' (a b : ByteArray) (w : World) (ha : a.size ≤ 60000) (hb : b.size ≤ 60000) :
    Calls Tryd.prog 15 #[.string a, .string b] w fun e w' => e = .returned (.int .i64 (verL a.data.toList b.data.toList)) ∧ Below w.heap.size w w' := by
  go_enter Tryd.func15, Tryd.ntmps15
  go_wp2
  go_loopw [0, 1] (PVRel a b w) (fun v _ _ => szV v)
  case atStart => exact ⟨a, b, rfl, rfl, ha, hb, Lib.hid rfl, Lib.hid (Below.refl _ _)⟩
  case round =>
    obtain ⟨x, y, rfl, rfl, lx, ly, HV, HB⟩ := hrel
    by_cases h1 : 0 < x.size
    · have n1 := str_ne' x h1
      by_cases h2 : 0 < y.size
      · have n2 := str_ne' y h2
        have HS := Lib.hid (HV.out.trans (ver_drop x y h1 h2 lx ly))
        obtain ⟨c, A, hA⟩ := list_cons h1
        obtain ⟨d, B, hB⟩ := list_cons h2
        have kx := tkK_le (l := x.data.toList) (by rw [size_list]; exact h1)
        have ky := tkK_le (l := y.data.toList) (by rw [size_list]; exact h2)
        have px := tkK_pos x.data.toList
        have py := tkK_pos y.data.toList
        rw [size_list] at kx ky
        have HTx := Lib.hid (fun W => token_any x W h1 lx)
        have HTy := Lib.hid (fun W => token_any y W h2 ly)
        have qx := take_size x _ kx
        have qy := take_size y _ ky
        have HC := Lib.hid (fun W => ctok_any (mkB (x.data.toList.take (tkK x.data.toList))) (mkB (y.data.toList.take (tkK y.data.toList))) c d (A.take (tkK x.data.toList - 1)) (B.take (tkK y.data.toList - 1)) W (by omega) (by omega)
          (by rw [mkB_list, hA]; obtain ⟨m, hm⟩ : ∃ m, tkK (c :: A) = m + 1 := ⟨tkK (c :: A) - 1, by have := tkK_pos (c :: A); omega⟩; rw [hm]; rfl)
          (by rw [mkB_list, hB]; obtain ⟨m, hm⟩ : ∃ m, tkK (d :: B) = m + 1 := ⟨tkK (d :: B) - 1, by have := tkK_pos (d :: B); omega⟩; rw [hm]; rfl))
        simp only [mkB_list] at HC
        clear hA hB HV
        generalize tokC (x.data.toList.take (tkK x.data.toList)) (y.data.toList.take (tkK y.data.toList)) = C at HS HC
        generalize mkB (x.data.toList.take (tkK x.data.toList)) = tx at HTx HC qx
        generalize mkB (y.data.toList.take (tkK y.data.toList)) = ty at HTy HC qy
        generalize tkK x.data.toList = kx0 at *
        generalize tkK y.data.toList = ky0 at *
        by_cases q : C = 0
        · rw [if_pos q] at HS
          have d0 : (C != 0) = false := by simpa using q
          go_wp2_with fail
          refine (HTx.out _).mono ?_
          rintro e w3 ⟨rfl, hw⟩
          subst hw
          go_wp2_with fail
          refine (HTy.out _).mono ?_
          rintro e w3 ⟨rfl, hw⟩
          subst hw
          go_upto_region 6 with (go_at_call 28; refine (HC.out _).mono ?_; rintro e w4 ⟨rfl, hb⟩; have HB4 := Lib.hid (below_two HB.out hb); clear hb)
          go_quiet (fail)
          have HB5 := Lib.hid (show Below w.heap.size w (w4.drewN nq) from below_drewN' HB4.out)
          generalize w4.drewN nq = w5 at HB5 ⊢
          have ex : (x.extract kx0 x.size).size = x.size - kx0 := by rw [ByteArray.size_extract]; omega
          have ey : (y.extract ky0 y.size).size = y.size - ky0 := by rw [ByteArray.size_extract]; omega
          go_wp2
          go_roundw
          case rel => exact ⟨_, _, rfl, rfl, by omega, by omega, HS, HB5⟩
          case measure => show (x.extract kx0 x.size).size < x.size; omega
        · rw [if_neg q] at HS
          have d0 : (C != 0) = true := by simpa using q
          go_wp2_with fail
          refine (HTx.out _).mono ?_
          rintro e w3 ⟨rfl, hw⟩
          subst hw
          go_wp2_with fail
          refine (HTy.out _).mono ?_
          rintro e w3 ⟨rfl, hw⟩
          subst hw
          go_wp2_with (go_at_call 28; refine (HC.out _).mono ?_; rintro e w4 ⟨rfl, hb⟩; have HB4 := Lib.hid (below_two HB.out hb); clear hb)
          go_ret
          exact ⟨ret_int HS.out.symm, HB4.out⟩
      · obtain rfl := emp_of y (by omega)
        have HE := Lib.hid (HV.out.trans (ver_end (.inr rfl)))
        rw [size_list] at HE
        have HCi := Lib.hid (fun W => cint_any (x.size : Int) 0 W)
        clear HV
        go_wp2_with (go_at_call 29; refine (HCi.out _).mono ?_; rintro e w3 ⟨rfl, hw⟩; subst hw)
        go_ret
        exact ⟨ret_int HE.out.symm, HB.out⟩
    · obtain rfl := emp_of x (by omega)
      have HE := Lib.hid (HV.out.trans (ver_end (.inl rfl)))
      rw [size_list] at HE
      have HCi := Lib.hid (fun W => cint_any 0 (y.size : Int) W)
      clear HV
      go_wp2_with (go_at_call 29; refine (HCi.out _).mono ?_; rintro e w3 ⟨rfl, hw⟩; subst hw)
      go_ret
      exact ⟨ret_int HE.out.symm, HB.out⟩
end Go.Proofs.YteeddednonmglaaDoor
