/-
  What Recent and Style return, the program's and the reference's; that the program is awake. Conditions: at most 1000000 bytes; the library's tables and the package's lie as their text lays them.
-/
import Derived.Test.YtiegibgllnojcaaDoorSRefFmt
set_option linter.unusedVariables false
namespace Go.Proofs.YtiegibgllnojcaaDoor
open Go.RowKit

/-- A time that isn't after now, nor half a year or more ahead of it. -/
def recentB (t n : Int) : Bool := decide (t ≤ n ∧ n - t < 15778476)
theorem u64_diff {t n : Int} (t0 : -9223372036854775808 ≤ t) (t1 : t ≤ 9223372036854775807) (n0 : -9223372036854775808 ≤ n) (n1 : n ≤ 9223372036854775807) (h : t ≤ n) :
    IntKind.u64.wrap (IntKind.u64.wrap n - IntKind.u64.wrap t) = n - t := by
  have e : ∀ x : Int, IntKind.u64.wrap x = x % 18446744073709551616 := fun x => rfl
  rw [e, e, e]
  omega

set_option maxHeartbeats 1000000 in
theorem recent_any (t n : Int) (w : World) (t0 : -9223372036854775808 ≤ t) (t1 : t ≤ 9223372036854775807) (n0 : -9223372036854775808 ≤ n) (n1 : n ≤ 9223372036854775807) :
    Calls Tryd.prog 12 #[.int .i64 t, .int .i64 n] w fun e w' => e = .returned (.bool (recentB t n)) ∧ w = w' := by
  by_cases h : t ≤ n
  · have e := u64_diff t0 t1 n0 n1 h
    have HE : Hid (recentB t n = decide (n - t < 15778476)) := Lib.hid (by unfold recentB; exact decide_eq_decide.2 ⟨fun x => x.2, fun x => ⟨h, x⟩⟩)
    have EW := Lib.hid e
    clear e
    go_enter Tryd.func12, Tryd.ntmps12
    go_wp2_with fail
    go_ret
    exact ⟨ret_bool (by rw [EW.out, HE.out]), rfl⟩
  · have HE : Hid (recentB t n = false) := Lib.hid (by unfold recentB; exact decide_eq_false (fun x => h x.1))
    go_enter Tryd.func12, Tryd.ntmps12
    go_wp2_with fail
    go_ret
    exact ⟨ret_bool HE.out.symm, rfl⟩

set_option maxHeartbeats 1000000 in
theorem refRecent_any (t n : Int) (w : World) (t0 : -9223372036854775808 ≤ t) (t1 : t ≤ 9223372036854775807) (n0 : -9223372036854775808 ≤ n) (n1 : n ≤ 9223372036854775807) :
    Calls Tryd.prog 13 #[.int .i64 t, .int .i64 n] w fun e w' => e = .returned (.bool (recentB t n)) ∧ w = w' := by
  by_cases h : n < t
  · have HE : Hid (recentB t n = false) := Lib.hid (by unfold recentB; exact decide_eq_false (fun x => by omega))
    go_enter Tryd.func13, Tryd.ntmps13
    go_wp2_with fail
    go_ret
    exact ⟨ret_bool HE.out.symm, rfl⟩
  · by_cases h1 : t < 0
    · by_cases h2 : 0 ≤ n
      · by_cases h3 : -15778476 < t
        · by_cases h4 : n < 15778476
          · have HE : Hid (recentB t n = decide (n - t < 15778476)) := Lib.hid (by unfold recentB; exact decide_eq_decide.2 ⟨fun x => x.2, fun x => ⟨by omega, x⟩⟩)
            go_enter Tryd.func13, Tryd.ntmps13
            go_wp2_with fail
            go_ret
            exact ⟨ret_bool HE.out.symm, rfl⟩
          · have HE : Hid (recentB t n = false) := Lib.hid (by unfold recentB; exact decide_eq_false (fun x => by omega))
            go_enter Tryd.func13, Tryd.ntmps13
            go_wp2_with fail
            go_ret
            exact ⟨ret_bool HE.out.symm, rfl⟩
        · have HE : Hid (recentB t n = false) := Lib.hid (by unfold recentB; exact decide_eq_false (fun x => by omega))
          have h3' : decide (-15778476 < t) = false := by simpa using h3
          go_enter Tryd.func13, Tryd.ntmps13
          go_wp2_with fail
          go_ret
          exact ⟨ret_bool HE.out.symm, rfl⟩
      · have HE : Hid (recentB t n = decide (n - t < 15778476)) := Lib.hid (by unfold recentB; exact decide_eq_decide.2 ⟨fun x => x.2, fun x => ⟨by omega, x⟩⟩)
        have h2' : decide (0 ≤ n) = false := by simpa using h2
        go_enter Tryd.func13, Tryd.ntmps13
        go_wp2_with fail
        go_ret
        exact ⟨ret_bool HE.out.symm, rfl⟩
    · have HE : Hid (recentB t n = decide (n - t < 15778476)) := Lib.hid (by unfold recentB; exact decide_eq_decide.2 ⟨fun x => x.2, fun x => ⟨by omega, x⟩⟩)
      have h1' : decide (t < 0) = false := by simpa using h1
      go_enter Tryd.func13, Tryd.ntmps13
      go_wp2_with fail
      go_ret
      exact ⟨ret_bool HE.out.symm, rfl⟩

theorem fmtT_told {t o : Int} {e : UInt8} {s : List UInt8} (r : List UInt8) (h : oneT t o e = some s) : fmtT t o (37 :: e :: r) = s ++ fmtT t o r := fmtL_told _ _ h
theorem fmtT_plain (t o : Int) {c : UInt8} (r : List UInt8) (h : c ≠ 37) : fmtT t o (c :: r) = c :: fmtT t o r := fmtL_plain _ _ h
theorem fmtT_append (t o : Int) (f g : List UInt8) (h : f.getLast? ≠ some 37) : fmtT t o (f ++ g) = fmtT t o f ++ fmtT t o g := fmtL_append _ g f.length f (Nat.le_refl _) h
/-- F and T are what they say. -/
theorem fmtT_F (t o : Int) (r : List UInt8) : fmtT t o (37 :: 70 :: r) = fmtT t o (37 :: 89 :: 45 :: 37 :: 109 :: 45 :: 37 :: 100 :: r) := by
  rw [fmtT_told (e := 70) r rfl, fmtT_told (e := 89) _ rfl, fmtT_plain _ _ _ (by decide), fmtT_told (e := 109) _ rfl, fmtT_plain _ _ _ (by decide), fmtT_told (e := 100) _ rfl]
  simp only [List.append_assoc, List.cons_append, List.nil_append]
theorem fmtT_T (t o : Int) (r : List UInt8) : fmtT t o (37 :: 84 :: r) = fmtT t o (37 :: 72 :: 58 :: 37 :: 77 :: 58 :: 37 :: 83 :: r) := by
  rw [fmtT_told (e := 84) r rfl, fmtT_told (e := 72) _ rfl, fmtT_plain _ _ _ (by decide), fmtT_told (e := 77) _ rfl, fmtT_plain _ _ _ (by decide), fmtT_told (e := 83) _ rfl]
  simp only [List.append_assoc, List.cons_append, List.nil_append]

/-- A time in a style. -/
def styleP (style : Int) (own : List UInt8) (t n o : Int) : List UInt8 :=
  if style = 0 then (if recentB t n then fmtT t o [37, 98, 32, 37, 101, 32, 37, 72, 58, 37, 77] else fmtT t o [37, 98, 32, 37, 101, 32, 32, 37, 89])
  else if style = 1 then fmtT t o [37, 70, 32, 37, 72, 58, 37, 77]
  else if style = 2 then fmtT t o [37, 70, 32, 37, 84, 32, 37, 122]
  else if style = 3 then fmtT t o own
  else []
theorem style_one (t o : Int) : fmtT t o [37, 89, 45, 37, 109, 45, 37, 100, 32, 37, 72, 58, 37, 77] = fmtT t o [37, 70, 32, 37, 72, 58, 37, 77] := (fmtT_F t o _).symm
theorem style_two (t o : Int) : fmtT t o [37, 89, 45, 37, 109, 45, 37, 100, 32, 37, 72, 58, 37, 77, 58, 37, 83, 32, 37, 122] = fmtT t o [37, 70, 32, 37, 84, 32, 37, 122] := by
  rw [fmtT_F]
  have a := fmtT_append t o [37, 89, 45, 37, 109, 45, 37, 100, 32] [37, 72, 58, 37, 77, 58, 37, 83, 32, 37, 122] (by decide)
  have b := fmtT_append t o [37, 89, 45, 37, 109, 45, 37, 100, 32] [37, 84, 32, 37, 122] (by decide)
  rw [fmtT_T] at b
  exact a.trans b.symm
theorem fmt_from {t o : Int} {S : List UInt8} (l : Array UInt8) (hl : l.size ≤ 1000000) (w : World) (hT : STab w) (t0 : -9223372036854775808 ≤ t) (t1 : t ≤ 9223372036854775807) (o0 : -9223372036854775808 ≤ o) (o1 : o ≤ 9223372036854775807) (hS : fmtT t o l.toList = S) :
    Calls Tryd.prog 10 #[.string ⟨l⟩, .int .i64 t, .int .i64 o] w fun e w' => e = .returned (.string (txt S)) ∧ Below w.heap.size w w' := by
  rw [← hS]
  exact format_any ⟨l⟩ t o w hT hl t0 t1 o0 o1
theorem rfmt_from {t o : Int} {S : List UInt8} (l : Array UInt8) (hl : l.size ≤ 1000000) (w : World) (t0 : -9223372036854775808 ≤ t) (t1 : t ≤ 9223372036854775807) (o0 : -9223372036854775808 ≤ o) (o1 : o ≤ 9223372036854775807) (hS : fmtT t o l.toList = S) :
    Calls Tryd.prog 11 #[.string ⟨l⟩, .int .i64 t, .int .i64 o] w fun e w' => e = .returned (.string (txt S)) ∧ Below w.heap.size w w' := by
  rw [← hS]
  exact refFormat_any ⟨l⟩ t o w hl t0 t1 o0 o1
end Go.Proofs.YtiegibgllnojcaaDoor
