/-
  What the reference's One and Format return. Conditions: at most 1000000 bytes.
-/
import Derived.Test.YtiegibgllnojcaaDoorSRefOneA
import Derived.Test.YtiegibgllnojcaaDoorSRefOneE
import Derived.Test.YtiegibgllnojcaaDoorSRefOneF
import Derived.Test.YtiegibgllnojcaaDoorSRefOneJ
import Derived.Test.YtiegibgllnojcaaDoorSRefOneZ
import Derived.Test.YtiegibgllnojcaaDoorSFmt
set_option linter.unusedVariables false
namespace Go.Proofs.YtiegibgllnojcaaDoor
open Go.RowKit

/-- What One answers. -/
def oneV : Option (List UInt8) → Value
  | some s => .tuple #[.string (txt s), .bool true]
  | none => .tuple #[.string ⟨#[]⟩, .bool false]
theorem one_any (t o : Int) (w : World) (t0 : -9223372036854775808 ≤ t) (t1 : t ≤ 9223372036854775807) (o0 : -9223372036854775808 ≤ o) (o1 : o ≤ 9223372036854775807) (c : UInt8) :
    Calls Tryd.prog 24 #[.int .u8 (c.toNat : Int), .int .i64 t, .int .i64 o] w fun e w' => e = .returned (oneV (oneT t o c)) ∧ Below w.heap.size w w' := by
  obtain ⟨y, m, d, h, i, s, wd, yd, hv, hone, B⟩ := date_of t o t0 t1 o0 o1
  rw [hone]
  by_cases e1 : c = 89
  · subst e1; exact one_Y _ _ _ _ _ _ _ _ _ _ B hv w
  by_cases e2 : c = 109
  · subst e2; exact one_m _ _ _ _ _ _ _ _ _ _ B hv w
  by_cases e3 : c = 100
  · subst e3; exact one_d _ _ _ _ _ _ _ _ _ _ B hv w
  by_cases e4 : c = 72
  · subst e4; exact one_H _ _ _ _ _ _ _ _ _ _ B hv w
  by_cases e5 : c = 77
  · subst e5; exact one_M _ _ _ _ _ _ _ _ _ _ B hv w
  by_cases e6 : c = 83
  · subst e6; exact one_S _ _ _ _ _ _ _ _ _ _ B hv w
  by_cases e7 : c = 101
  · subst e7; exact one_e _ _ _ _ _ _ _ _ _ _ B hv w
  by_cases e8 : c = 106
  · subst e8; exact one_j _ _ _ _ _ _ _ _ _ _ B hv w
  by_cases e9 : c = 98
  · subst e9; exact one_b _ _ _ _ _ _ _ _ _ _ B hv w
  by_cases e10 : c = 97
  · subst e10; exact one_a _ _ _ _ _ _ _ _ _ _ B hv w
  by_cases e11 : c = 115
  · subst e11; exact one_s _ _ _ _ _ _ _ _ _ _ B hv w
  by_cases e12 : c = 122
  · subst e12; exact one_z _ _ _ _ _ _ _ _ _ _ B hv w
  by_cases e13 : c = 70
  · subst e13; exact one_F _ _ _ _ _ _ _ _ _ _ B hv w
  by_cases e14 : c = 84
  · subst e14; exact one_T _ _ _ _ _ _ _ _ _ _ B hv w
  by_cases e15 : c = 37
  · subst e15; exact one_pct _ _ _ _ _ _ _ _ _ _ B hv w
  have e : oneL t o y m d h i s wd yd c = none := by
    unfold oneL
    rw [if_neg e1, if_neg e2, if_neg e3, if_neg e4, if_neg e5, if_neg e6, if_neg e7, if_neg e8, if_neg e9, if_neg e10, if_neg e11, if_neg e12, if_neg e13, if_neg e14, if_neg e15]
  rw [e]
  exact one_none _ _ _ _ _ _ _ _ _ _ B hv w c.toNat (ne_of c 89 89 rfl e1) (ne_of c 109 109 rfl e2) (ne_of c 100 100 rfl e3) (ne_of c 72 72 rfl e4) (ne_of c 77 77 rfl e5) (ne_of c 83 83 rfl e6) (ne_of c 101 101 rfl e7) (ne_of c 106 106 rfl e8) (ne_of c 98 98 rfl e9) (ne_of c 97 97 rfl e10) (ne_of c 115 115 rfl e11) (ne_of c 122 122 rfl e12) (ne_of c 70 70 rfl e13) (ne_of c 84 84 rfl e14) (ne_of c 37 37 rfl e15)

theorem one_byte (f : ByteArray) (k : Nat) (h : k < f.size) : f.extract k (k + 1) = txt [f[k]'h] := by
  apply ByteArray.ext
  apply Array.toList_inj.1
  rw [ByteArray.data_extract, Array.toList_extract, List.extract_eq_take_drop, get_data f k h, show k + 1 - k = 1 by omega]
  rfl
theorem join_run (P : Program) (a b : List UInt8) (ha : a.length ≤ 100000000) (hb : b.length ≤ 100000000) (w : World) : (Op.stringOp .add (txt a) (txt b)).run P w = .ok (.string (txt (a ++ b))) w := by
  rw [run_string_add_sum _ _ _ (by rw [txt_size, txt_size]; omega), txt_append]

def RefFmtRel (f : ByteArray) (t o : Int) (w : World) (x v : Value) (w' : World) : Prop :=
  ∃ (k : Nat) (out : List UInt8), k ≤ f.size ∧ x = .string (txt out) ∧ v = .int .i64 (k : Int) ∧ out ++ fmtT t o (f.data.toList.drop k) = fmtT t o f.data.toList ∧ out.length ≤ 26 * f.size ∧ Below w.heap.size w w'

set_option maxHeartbeats 4000000 in
set_option maxRecDepth 100000 in
theorem refFormat_any (f : ByteArray) (t o : Int) (w : World) (hf : f.size ≤ 1000000) (t0 : -9223372036854775808 ≤ t) (t1 : t ≤ 9223372036854775807) (o0 : -9223372036854775808 ≤ o) (o1 : o ≤ 9223372036854775807) :
    Calls Tryd.prog 11 #[.string f, .int .i64 t, .int .i64 o] w fun e w' => e = .returned (.string (txt (fmtT t o f.data.toList))) ∧ Below w.heap.size w w' := by
  have hlen := fmtT_len t o t0 t1 o0 o1 f.data.toList
  rw [show f.data.toList.length = f.size by simp] at hlen
  have HL := Lib.hid (fun c l h => oneT_len t o t0 t1 o0 o1 c l h)
  have HO := Lib.hid (fun (wx : World) (c : UInt8) => one_any t o wx t0 t1 o0 o1 c)
  go_enter Tryd.func11, Tryd.ntmps11
  go_wp2_with fail
  go_loopw [7, 8] (RefFmtRel f t o w) (fun _ v _ => f.size - (intOf v).toNat)
  case atStart => exact ⟨0, [], Nat.zero_le _, rfl, rfl, rfl, by simp, Below.refl _ _⟩
  case round =>
    obtain ⟨k, out, hk, rfl, rfl, hr, hol, hb⟩ := hrel
    have HB := Lib.hid hb
    have HR := Lib.hid hr
    clear hb hr
    by_cases hlt : k < f.size
    · obtain ⟨c, hc⟩ : ∃ c, f[k]'hlt = c := ⟨_, rfl⟩
      have HD : Hid (f.data.toList.drop k = c :: f.data.toList.drop (k + 1)) := Lib.hid (by rw [get_data f k hlt, hc])
      have hpc := one_byte f k hlt
      rw [hc] at hpc
      obtain ⟨n, hn⟩ : ∃ n, c.toNat = n := ⟨_, rfl⟩
      have HN : Hid ((c = 37) ↔ n = 37) := Lib.hid (by rw [← UInt8.toNat_inj, hn]; rfl)
      have HE : Hid (∀ j l, l ++ fmtT t o (f.data.toList.drop j) = fmtT t o (f.data.toList.drop k) → out ++ l ++ fmtT t o (f.data.toList.drop j) = fmtT t o f.data.toList ∧ (out ++ l).length ≤ 26 * f.size) := Lib.hid (fun j l hl => by
        have e : out ++ l ++ fmtT t o (f.data.toList.drop j) = fmtT t o f.data.toList := by rw [List.append_assoc, hl, HR.out]
        have := congrArg List.length e
        rw [List.length_append] at this
        exact ⟨e, by omega⟩)
      obtain ⟨X, hX⟩ : ∃ X, X = txt (out ++ [c]) := ⟨_, rfl⟩
      have hj1 : ∀ w : World, (Op.stringOp .add (txt out) (txt [c])).run Tryd.prog w = .ok (.string X) w := fun w => by rw [hX]; exact join_run _ _ _ (by omega) (by simp) w
      have HX := Lib.hid hX
      clear hX
      have j0 : (0 : Int) ≤ (k : Int) := by omega
      have j1 : (k : Int) + 1 ≤ (f.size : Int) := by omega
      have j2 : (k : Int) ≤ (k : Int) + 1 := by omega
      by_cases h37 : n = 37
      · have hx : ((n : Int) == 37) = true := by rw [h37]; rfl
        by_cases hlast : k + 1 = f.size
        · have hq : ¬ (k : Int) < (f.size : Int) - 1 := by omega
          have HF := Lib.hid (HE.out (k + 1) [c] (by rw [HD.out, show f.data.toList.drop (k + 1) = [] from List.drop_eq_nil_of_le (by simp; omega)]; unfold fmtT; rw [fmtL_nil, fmtL_last]; rfl))
          clear h37 HE hlast
          go_wp2_with fail
          go_roundw
          case rel => exact ⟨k + 1, out ++ [c], by omega, by rw [HX.out], by go_num, HF.out.1, HF.out.2, HB.out⟩
          case measure => simp [intOf]; omega
        · have hq : (k : Int) < (f.size : Int) - 1 := by omega
          have hin : k + 1 < f.size := by omega
          obtain ⟨c2, hc2⟩ : ∃ c2, f[k + 1]'hin = c2 := ⟨_, rfl⟩
          have HD2 : Hid (f.data.toList.drop (k + 1) = c2 :: f.data.toList.drop (k + 2)) := Lib.hid (by rw [get_data f (k + 1) hin, hc2])
          have cO := HO.out wr c2
          cases ho : oneT t o c2 with
          | some s =>
            have hsl := HL.out c2 s ho
            have HF := Lib.hid (HE.out (k + 2) s (by rw [HD.out, HD2.out, HN.out.2 h37, fmtT_pair, ho]; rfl))
            obtain ⟨Z, hZ⟩ : ∃ Z, Z = txt (out ++ s) := ⟨_, rfl⟩
            have hj2 : ∀ w : World, (Op.stringOp .add (txt out) (txt s)).run Tryd.prog w = .ok (.string Z) w := fun w => by rw [hZ]; exact join_run _ _ _ (by omega) (by omega) w
            have HZ := Lib.hid hZ
            rw [ho] at cO
            change Calls Tryd.prog 24 #[.int .u8 (c2.toNat : Int), .int .i64 t, .int .i64 o] wr fun e w' => e = .returned (.tuple #[.string (txt s), .bool true]) ∧ Below wr.heap.size wr w' at cO
            clear h37 HE hZ ho HD HD2
            go_wp2_with fail
            refine cO.mono ?_
            rintro e w2 ⟨rfl, hb2⟩
            have HB2 := Lib.hid (below_two HB.out hb2)
            clear hb2 cO
            go_wp2_with fail
            go_roundw
            case rel => exact ⟨k + 2, out ++ s, by omega, by rw [HZ.out], by go_num, HF.out.1, HF.out.2, HB2.out⟩
            case measure => simp [intOf]; omega
          | none =>
            have HF := Lib.hid (HE.out (k + 1) [c] (by rw [HD.out, HD2.out, HN.out.2 h37]; unfold fmtT; rw [fmtL_none _ _ ho]; rfl))
            rw [ho] at cO
            change Calls Tryd.prog 24 #[.int .u8 (c2.toNat : Int), .int .i64 t, .int .i64 o] wr fun e w' => e = .returned (.tuple #[.string ⟨#[]⟩, .bool false]) ∧ Below wr.heap.size wr w' at cO
            clear h37 HE ho HD HD2
            go_wp2_with fail
            refine cO.mono ?_
            rintro e w2 ⟨rfl, hb2⟩
            have HB2 := Lib.hid (below_two HB.out hb2)
            clear hb2 cO
            go_wp2_with fail
            go_roundw
            case rel => exact ⟨k + 1, out ++ [c], by omega, by rw [HX.out], by go_num, HF.out.1, HF.out.2, HB2.out⟩
            case measure => simp [intOf]; omega
      · have hx : ((n : Int) == 37) = false := beq_eq_false_iff_ne.2 (by omega)
        have HF := Lib.hid (HE.out (k + 1) [c] (by rw [HD.out]; unfold fmtT; rw [fmtL_plain _ _ (fun e => h37 (HN.out.1 e))]; rfl))
        clear h37 HE
        go_wp2_with fail
        go_roundw
        case rel => exact ⟨k + 1, out ++ [c], by omega, by rw [HX.out], by go_num, HF.out.1, HF.out.2, HB.out⟩
        case measure => simp [intOf]; omega
    · have hkk : k = f.size := by omega
      go_wp2_with fail
      go_ret
      refine ⟨ret_str ?_, HB.out⟩
      rw [← HR.out, hkk, List.drop_eq_nil_of_le (by simp)]
      unfold fmtT
      rw [fmtL_nil, List.append_nil]
end Go.Proofs.YtiegibgllnojcaaDoor
