/-
  What Style returns, the program's and the reference's. Conditions: at most 1000000 bytes; the library's tables and the package's lie as their text lays them.
-/
import Derived.Test.YtiegibgllnojcaaDoorSStyle
set_option linter.unusedVariables false
namespace Go.Proofs.YtiegibgllnojcaaDoor
open Go.RowKit

set_option maxHeartbeats 2000000 in
set_option maxRecDepth 100000 in
theorem style_0t (own : ByteArray) (t n o : Int) (w : World) (hT : STab w) (hz : own.size ≤ 1000000) (t0 : -9223372036854775808 ≤ t) (t1 : t ≤ 9223372036854775807) (n0 : -9223372036854775808 ≤ n) (n1 : n ≤ 9223372036854775807) (o0 : -9223372036854775808 ≤ o) (o1 : o ≤ 9223372036854775807) (hr : recentB t n = true) :
    Calls Tryd.prog 14 #[.int .i64 0, .string own, .int .i64 t, .int .i64 n, .int .i64 o] w fun e w' => e = .returned (.string (txt (styleP 0 own.data.toList t n o))) ∧ Below w.heap.size w w' := by
  have HT := Lib.hid hT
  clear hT
  have cR := recent_any t n w t0 t1 n0 n1
  rw [hr] at cR
  obtain ⟨S, hS⟩ : ∃ S, styleP 0 own.data.toList t n o = S := ⟨_, rfl⟩
  have HS : Hid (fmtT t o (#[37, 98, 32, 37, 101, 32, 37, 72, 58, 37, 77] : Array UInt8).toList = S) := Lib.hid (by rw [← hS]; unfold styleP; rw [if_pos rfl, hr]; rfl)
  rw [hS]
  clear hS
  clear hr
  go_enter Tryd.func14, Tryd.ntmps14
  go_wp2_with fail
  refine (cR).mono ?_
  rintro e w2 ⟨rfl, rfl⟩
  go_wp2_with fail
  refine (fmt_from #[37, 98, 32, 37, 101, 32, 37, 72, 58, 37, 77] (by decide) w HT.out t0 t1 o0 o1 HS.out).mono ?_
  rintro e w2 ⟨rfl, hb⟩
  have HB := Lib.hid hb
  clear hb
  go_wp2_with fail
  go_ret
  exact ⟨rfl, HB.out⟩

set_option maxHeartbeats 2000000 in
set_option maxRecDepth 100000 in
theorem style_0f (own : ByteArray) (t n o : Int) (w : World) (hT : STab w) (hz : own.size ≤ 1000000) (t0 : -9223372036854775808 ≤ t) (t1 : t ≤ 9223372036854775807) (n0 : -9223372036854775808 ≤ n) (n1 : n ≤ 9223372036854775807) (o0 : -9223372036854775808 ≤ o) (o1 : o ≤ 9223372036854775807) (hr : recentB t n = false) :
    Calls Tryd.prog 14 #[.int .i64 0, .string own, .int .i64 t, .int .i64 n, .int .i64 o] w fun e w' => e = .returned (.string (txt (styleP 0 own.data.toList t n o))) ∧ Below w.heap.size w w' := by
  have HT := Lib.hid hT
  clear hT
  have cR := recent_any t n w t0 t1 n0 n1
  rw [hr] at cR
  obtain ⟨S, hS⟩ : ∃ S, styleP 0 own.data.toList t n o = S := ⟨_, rfl⟩
  have HS : Hid (fmtT t o (#[37, 98, 32, 37, 101, 32, 32, 37, 89] : Array UInt8).toList = S) := Lib.hid (by rw [← hS]; unfold styleP; rw [if_pos rfl, hr]; rfl)
  rw [hS]
  clear hS
  clear hr
  go_enter Tryd.func14, Tryd.ntmps14
  go_wp2_with fail
  refine (cR).mono ?_
  rintro e w2 ⟨rfl, rfl⟩
  go_wp2_with fail
  refine (fmt_from #[37, 98, 32, 37, 101, 32, 32, 37, 89] (by decide) w HT.out t0 t1 o0 o1 HS.out).mono ?_
  rintro e w2 ⟨rfl, hb⟩
  have HB := Lib.hid hb
  clear hb
  go_wp2_with fail
  go_ret
  exact ⟨rfl, HB.out⟩

set_option maxHeartbeats 2000000 in
set_option maxRecDepth 100000 in
theorem style_1 (own : ByteArray) (t n o : Int) (w : World) (hT : STab w) (hz : own.size ≤ 1000000) (t0 : -9223372036854775808 ≤ t) (t1 : t ≤ 9223372036854775807) (n0 : -9223372036854775808 ≤ n) (n1 : n ≤ 9223372036854775807) (o0 : -9223372036854775808 ≤ o) (o1 : o ≤ 9223372036854775807) :
    Calls Tryd.prog 14 #[.int .i64 1, .string own, .int .i64 t, .int .i64 n, .int .i64 o] w fun e w' => e = .returned (.string (txt (styleP 1 own.data.toList t n o))) ∧ Below w.heap.size w w' := by
  have HT := Lib.hid hT
  clear hT
  obtain ⟨S, hS⟩ : ∃ S, styleP 1 own.data.toList t n o = S := ⟨_, rfl⟩
  have HS : Hid (fmtT t o (#[37, 89, 45, 37, 109, 45, 37, 100, 32, 37, 72, 58, 37, 77] : Array UInt8).toList = S) := Lib.hid (by rw [← hS]; exact style_one t o)
  rw [hS]
  clear hS
  go_enter Tryd.func14, Tryd.ntmps14
  go_wp2_with fail
  refine (fmt_from #[37, 89, 45, 37, 109, 45, 37, 100, 32, 37, 72, 58, 37, 77] (by decide) w HT.out t0 t1 o0 o1 HS.out).mono ?_
  rintro e w2 ⟨rfl, hb⟩
  have HB := Lib.hid hb
  clear hb
  go_wp2_with fail
  go_ret
  exact ⟨rfl, HB.out⟩

set_option maxHeartbeats 2000000 in
set_option maxRecDepth 100000 in
theorem style_2 (own : ByteArray) (t n o : Int) (w : World) (hT : STab w) (hz : own.size ≤ 1000000) (t0 : -9223372036854775808 ≤ t) (t1 : t ≤ 9223372036854775807) (n0 : -9223372036854775808 ≤ n) (n1 : n ≤ 9223372036854775807) (o0 : -9223372036854775808 ≤ o) (o1 : o ≤ 9223372036854775807) :
    Calls Tryd.prog 14 #[.int .i64 2, .string own, .int .i64 t, .int .i64 n, .int .i64 o] w fun e w' => e = .returned (.string (txt (styleP 2 own.data.toList t n o))) ∧ Below w.heap.size w w' := by
  have HT := Lib.hid hT
  clear hT
  obtain ⟨S, hS⟩ : ∃ S, styleP 2 own.data.toList t n o = S := ⟨_, rfl⟩
  have HS : Hid (fmtT t o (#[37, 89, 45, 37, 109, 45, 37, 100, 32, 37, 72, 58, 37, 77, 58, 37, 83, 32, 37, 122] : Array UInt8).toList = S) := Lib.hid (by rw [← hS]; exact style_two t o)
  rw [hS]
  clear hS
  go_enter Tryd.func14, Tryd.ntmps14
  go_wp2_with fail
  refine (fmt_from #[37, 89, 45, 37, 109, 45, 37, 100, 32, 37, 72, 58, 37, 77, 58, 37, 83, 32, 37, 122] (by decide) w HT.out t0 t1 o0 o1 HS.out).mono ?_
  rintro e w2 ⟨rfl, hb⟩
  have HB := Lib.hid hb
  clear hb
  go_wp2_with fail
  go_ret
  exact ⟨rfl, HB.out⟩

set_option maxHeartbeats 2000000 in
set_option maxRecDepth 100000 in
theorem style_3 (own : ByteArray) (t n o : Int) (w : World) (hT : STab w) (hz : own.size ≤ 1000000) (t0 : -9223372036854775808 ≤ t) (t1 : t ≤ 9223372036854775807) (n0 : -9223372036854775808 ≤ n) (n1 : n ≤ 9223372036854775807) (o0 : -9223372036854775808 ≤ o) (o1 : o ≤ 9223372036854775807) :
    Calls Tryd.prog 14 #[.int .i64 3, .string own, .int .i64 t, .int .i64 n, .int .i64 o] w fun e w' => e = .returned (.string (txt (styleP 3 own.data.toList t n o))) ∧ Below w.heap.size w w' := by
  have HT := Lib.hid hT
  clear hT
  obtain ⟨S, hS⟩ : ∃ S, styleP 3 own.data.toList t n o = S := ⟨_, rfl⟩
  have HS : Hid (fmtT t o own.data.toList = S) := Lib.hid (by rw [← hS]; rfl)
  rw [hS]
  clear hS
  go_enter Tryd.func14, Tryd.ntmps14
  go_wp2_with fail
  refine (format_any own t o w HT.out hz t0 t1 o0 o1).mono ?_
  rintro e w2 ⟨rfl, hb⟩
  have HB := Lib.hid hb
  clear hb
  go_wp2_with fail
  go_ret
  exact ⟨(congrArg (fun s => Ending.returned (.string (txt s))) HS.out), HB.out⟩

set_option maxHeartbeats 2000000 in
set_option maxRecDepth 100000 in
theorem style_none (style : Int) (own : ByteArray) (t n o : Int) (w : World) (hT : STab w) (hz : own.size ≤ 1000000) (t0 : -9223372036854775808 ≤ t) (t1 : t ≤ 9223372036854775807) (n0 : -9223372036854775808 ≤ n) (n1 : n ≤ 9223372036854775807) (o0 : -9223372036854775808 ≤ o) (o1 : o ≤ 9223372036854775807) (h0 : style ≠ 0) (h1 : style ≠ 1) (h2 : style ≠ 2) (h3 : style ≠ 3) :
    Calls Tryd.prog 14 #[.int .i64 style, .string own, .int .i64 t, .int .i64 n, .int .i64 o] w fun e w' => e = .returned (.string (txt (styleP style own.data.toList t n o))) ∧ Below w.heap.size w w' := by
  have HS : Hid (styleP style own.data.toList t n o = []) := Lib.hid (by unfold styleP; rw [if_neg h0, if_neg h1, if_neg h2, if_neg h3])
  have q0 : (style == 0) = false := beq_eq_false_iff_ne.2 h0
  have q1 : (style == 1) = false := beq_eq_false_iff_ne.2 h1
  have q2 : (style == 2) = false := beq_eq_false_iff_ne.2 h2
  have q3 : (style == 3) = false := beq_eq_false_iff_ne.2 h3
  go_enter Tryd.func14, Tryd.ntmps14
  go_wp2_with fail
  go_ret
  exact ⟨by rw [HS.out]; rfl, Below.refl _ _⟩

set_option maxHeartbeats 2000000 in
set_option maxRecDepth 100000 in
theorem style_any (style : Int) (own : ByteArray) (t n o : Int) (w : World) (hT : STab w) (hz : own.size ≤ 1000000) (t0 : -9223372036854775808 ≤ t) (t1 : t ≤ 9223372036854775807) (n0 : -9223372036854775808 ≤ n) (n1 : n ≤ 9223372036854775807) (o0 : -9223372036854775808 ≤ o) (o1 : o ≤ 9223372036854775807) :
    Calls Tryd.prog 14 #[.int .i64 style, .string own, .int .i64 t, .int .i64 n, .int .i64 o] w fun e w' => e = .returned (.string (txt (styleP style own.data.toList t n o))) ∧ Below w.heap.size w w' := by
  by_cases h0 : style = 0
  · subst h0
    cases hr : recentB t n with
    | true => exact style_0t own t n o w hT hz t0 t1 n0 n1 o0 o1 hr
    | false => exact style_0f own t n o w hT hz t0 t1 n0 n1 o0 o1 hr
  by_cases h1 : style = 1
  · subst h1; exact style_1 own t n o w hT hz t0 t1 n0 n1 o0 o1
  by_cases h2 : style = 2
  · subst h2; exact style_2 own t n o w hT hz t0 t1 n0 n1 o0 o1
  by_cases h3 : style = 3
  · subst h3; exact style_3 own t n o w hT hz t0 t1 n0 n1 o0 o1
  exact style_none style own t n o w hT hz t0 t1 n0 n1 o0 o1 h0 h1 h2 h3

def styV (own : ByteArray) (k : Int) : ByteArray := if k = 0 then ⟨#[37, 98, 32, 37, 101, 32, 32, 37, 89]⟩ else if k = 1 then ⟨#[37, 70, 32, 37, 72, 58, 37, 77]⟩ else if k = 2 then ⟨#[37, 70, 32, 37, 84, 32, 37, 122]⟩ else own
theorem four_cases {m : Int} (h1 : 0 ≤ m) (h2 : m ≤ 3) : m = 0 ∨ m = 1 ∨ m = 2 ∨ m = 3 := by omega
theorem sty_at (own : ByteArray) (k : Int) (h0 : 0 ≤ k) (h1 : k ≤ 3) (w : World) : (Instr.index 57 (.agg #[.string ⟨#[37, 98, 32, 37, 101, 32, 32, 37, 89]⟩, .string ⟨#[37, 70, 32, 37, 72, 58, 37, 77]⟩, .string ⟨#[37, 70, 32, 37, 84, 32, 37, 122]⟩, .string own]) (.int .i64 k)).run Tryd.prog w = .ok (.string (styV own k)) w := by
  rcases four_cases h0 h1 with rfl | rfl | rfl | rfl
  all_goals kernel_rfl

set_option maxHeartbeats 2000000 in
set_option maxRecDepth 100000 in
theorem refStyle_0t (own : ByteArray) (t n o : Int) (w : World) (hz : own.size ≤ 1000000) (t0 : -9223372036854775808 ≤ t) (t1 : t ≤ 9223372036854775807) (n0 : -9223372036854775808 ≤ n) (n1 : n ≤ 9223372036854775807) (o0 : -9223372036854775808 ≤ o) (o1 : o ≤ 9223372036854775807) (hr : recentB t n = true) :
    Calls Tryd.prog 15 #[.int .i64 0, .string own, .int .i64 t, .int .i64 n, .int .i64 o] w fun e w' => e = .returned (.string (txt (styleP 0 own.data.toList t n o))) ∧ Below w.heap.size w w' := by
  have cR := refRecent_any t n w t0 t1 n0 n1
  rw [hr] at cR
  obtain ⟨S, hS⟩ : ∃ S, styleP 0 own.data.toList t n o = S := ⟨_, rfl⟩
  have HS : Hid (fmtT t o (#[37, 98, 32, 37, 101, 32, 37, 72, 58, 37, 77] : Array UInt8).toList = S) := Lib.hid (by rw [← hS]; unfold styleP; rw [if_pos rfl, hr]; rfl)
  rw [hS]
  clear hS
  clear hr
  have hidx := fun w => sty_at own 0 (by omega) (by omega) w
  go_enter Tryd.func15, Tryd.ntmps15
  go_wp2_with fail
  refine (cR).mono ?_
  rintro e w2 ⟨rfl, rfl⟩
  go_wp2_with fail
  refine (rfmt_from #[37, 98, 32, 37, 101, 32, 37, 72, 58, 37, 77] (by decide) w t0 t1 o0 o1 HS.out).mono ?_
  rintro e w2 ⟨rfl, hb⟩
  have HB := Lib.hid hb
  clear hb
  go_wp2_with fail
  go_ret
  exact ⟨rfl, HB.out⟩

set_option maxHeartbeats 2000000 in
set_option maxRecDepth 100000 in
theorem refStyle_0f (own : ByteArray) (t n o : Int) (w : World) (hz : own.size ≤ 1000000) (t0 : -9223372036854775808 ≤ t) (t1 : t ≤ 9223372036854775807) (n0 : -9223372036854775808 ≤ n) (n1 : n ≤ 9223372036854775807) (o0 : -9223372036854775808 ≤ o) (o1 : o ≤ 9223372036854775807) (hr : recentB t n = false) :
    Calls Tryd.prog 15 #[.int .i64 0, .string own, .int .i64 t, .int .i64 n, .int .i64 o] w fun e w' => e = .returned (.string (txt (styleP 0 own.data.toList t n o))) ∧ Below w.heap.size w w' := by
  have cR := refRecent_any t n w t0 t1 n0 n1
  rw [hr] at cR
  obtain ⟨S, hS⟩ : ∃ S, styleP 0 own.data.toList t n o = S := ⟨_, rfl⟩
  have HS : Hid (fmtT t o (#[37, 98, 32, 37, 101, 32, 32, 37, 89] : Array UInt8).toList = S) := Lib.hid (by rw [← hS]; unfold styleP; rw [if_pos rfl, hr]; rfl)
  rw [hS]
  clear hS
  clear hr
  have hidx := fun w => sty_at own 0 (by omega) (by omega) w
  go_enter Tryd.func15, Tryd.ntmps15
  go_wp2_with fail
  refine (cR).mono ?_
  rintro e w2 ⟨rfl, rfl⟩
  go_wp2_with fail
  refine (rfmt_from #[37, 98, 32, 37, 101, 32, 32, 37, 89] (by decide) w t0 t1 o0 o1 HS.out).mono ?_
  rintro e w2 ⟨rfl, hb⟩
  have HB := Lib.hid hb
  clear hb
  go_wp2_with fail
  go_ret
  exact ⟨rfl, HB.out⟩

set_option maxHeartbeats 2000000 in
set_option maxRecDepth 100000 in
theorem refStyle_1 (own : ByteArray) (t n o : Int) (w : World) (hz : own.size ≤ 1000000) (t0 : -9223372036854775808 ≤ t) (t1 : t ≤ 9223372036854775807) (n0 : -9223372036854775808 ≤ n) (n1 : n ≤ 9223372036854775807) (o0 : -9223372036854775808 ≤ o) (o1 : o ≤ 9223372036854775807) :
    Calls Tryd.prog 15 #[.int .i64 1, .string own, .int .i64 t, .int .i64 n, .int .i64 o] w fun e w' => e = .returned (.string (txt (styleP 1 own.data.toList t n o))) ∧ Below w.heap.size w w' := by
  obtain ⟨S, hS⟩ : ∃ S, styleP 1 own.data.toList t n o = S := ⟨_, rfl⟩
  have HS : Hid (fmtT t o (#[37, 70, 32, 37, 72, 58, 37, 77] : Array UInt8).toList = S) := Lib.hid (by rw [← hS]; rfl)
  rw [hS]
  clear hS
  have hidx := fun w => sty_at own 1 (by omega) (by omega) w
  go_enter Tryd.func15, Tryd.ntmps15
  go_wp2_with fail
  refine (rfmt_from #[37, 70, 32, 37, 72, 58, 37, 77] (by decide) w t0 t1 o0 o1 HS.out).mono ?_
  rintro e w2 ⟨rfl, hb⟩
  have HB := Lib.hid hb
  clear hb
  go_wp2_with fail
  go_ret
  exact ⟨rfl, HB.out⟩

set_option maxHeartbeats 2000000 in
set_option maxRecDepth 100000 in
theorem refStyle_2 (own : ByteArray) (t n o : Int) (w : World) (hz : own.size ≤ 1000000) (t0 : -9223372036854775808 ≤ t) (t1 : t ≤ 9223372036854775807) (n0 : -9223372036854775808 ≤ n) (n1 : n ≤ 9223372036854775807) (o0 : -9223372036854775808 ≤ o) (o1 : o ≤ 9223372036854775807) :
    Calls Tryd.prog 15 #[.int .i64 2, .string own, .int .i64 t, .int .i64 n, .int .i64 o] w fun e w' => e = .returned (.string (txt (styleP 2 own.data.toList t n o))) ∧ Below w.heap.size w w' := by
  obtain ⟨S, hS⟩ : ∃ S, styleP 2 own.data.toList t n o = S := ⟨_, rfl⟩
  have HS : Hid (fmtT t o (#[37, 70, 32, 37, 84, 32, 37, 122] : Array UInt8).toList = S) := Lib.hid (by rw [← hS]; rfl)
  rw [hS]
  clear hS
  have hidx := fun w => sty_at own 2 (by omega) (by omega) w
  go_enter Tryd.func15, Tryd.ntmps15
  go_wp2_with fail
  refine (rfmt_from #[37, 70, 32, 37, 84, 32, 37, 122] (by decide) w t0 t1 o0 o1 HS.out).mono ?_
  rintro e w2 ⟨rfl, hb⟩
  have HB := Lib.hid hb
  clear hb
  go_wp2_with fail
  go_ret
  exact ⟨rfl, HB.out⟩

set_option maxHeartbeats 2000000 in
set_option maxRecDepth 100000 in
theorem refStyle_3 (own : ByteArray) (t n o : Int) (w : World) (hz : own.size ≤ 1000000) (t0 : -9223372036854775808 ≤ t) (t1 : t ≤ 9223372036854775807) (n0 : -9223372036854775808 ≤ n) (n1 : n ≤ 9223372036854775807) (o0 : -9223372036854775808 ≤ o) (o1 : o ≤ 9223372036854775807) :
    Calls Tryd.prog 15 #[.int .i64 3, .string own, .int .i64 t, .int .i64 n, .int .i64 o] w fun e w' => e = .returned (.string (txt (styleP 3 own.data.toList t n o))) ∧ Below w.heap.size w w' := by
  obtain ⟨S, hS⟩ : ∃ S, styleP 3 own.data.toList t n o = S := ⟨_, rfl⟩
  have HS : Hid (fmtT t o own.data.toList = S) := Lib.hid (by rw [← hS]; rfl)
  rw [hS]
  clear hS
  have hidx := fun w => sty_at own 3 (by omega) (by omega) w
  go_enter Tryd.func15, Tryd.ntmps15
  go_wp2_with fail
  refine (refFormat_any own t o w hz t0 t1 o0 o1).mono ?_
  rintro e w2 ⟨rfl, hb⟩
  have HB := Lib.hid hb
  clear hb
  go_wp2_with fail
  go_ret
  exact ⟨(congrArg (fun s => Ending.returned (.string (txt s))) HS.out), HB.out⟩

set_option maxHeartbeats 2000000 in
set_option maxRecDepth 100000 in
theorem refStyle_lo (style : Int) (own : ByteArray) (t n o : Int) (w : World) (hz : own.size ≤ 1000000) (t0 : -9223372036854775808 ≤ t) (t1 : t ≤ 9223372036854775807) (n0 : -9223372036854775808 ≤ n) (n1 : n ≤ 9223372036854775807) (o0 : -9223372036854775808 ≤ o) (o1 : o ≤ 9223372036854775807) (h0 : style < 0) :
    Calls Tryd.prog 15 #[.int .i64 style, .string own, .int .i64 t, .int .i64 n, .int .i64 o] w fun e w' => e = .returned (.string (txt (styleP style own.data.toList t n o))) ∧ Below w.heap.size w w' := by
  have HS : Hid (styleP style own.data.toList t n o = []) := Lib.hid (by unfold styleP; rw [if_neg (by omega), if_neg (by omega), if_neg (by omega), if_neg (by omega)])
  go_enter Tryd.func15, Tryd.ntmps15
  go_wp2_with fail
  go_ret
  exact ⟨by rw [HS.out]; rfl, Below.refl _ _⟩

set_option maxHeartbeats 2000000 in
set_option maxRecDepth 100000 in
theorem refStyle_hi (style : Int) (own : ByteArray) (t n o : Int) (w : World) (hz : own.size ≤ 1000000) (t0 : -9223372036854775808 ≤ t) (t1 : t ≤ 9223372036854775807) (n0 : -9223372036854775808 ≤ n) (n1 : n ≤ 9223372036854775807) (o0 : -9223372036854775808 ≤ o) (o1 : o ≤ 9223372036854775807) (h0 : 3 < style) :
    Calls Tryd.prog 15 #[.int .i64 style, .string own, .int .i64 t, .int .i64 n, .int .i64 o] w fun e w' => e = .returned (.string (txt (styleP style own.data.toList t n o))) ∧ Below w.heap.size w w' := by
  have HS : Hid (styleP style own.data.toList t n o = []) := Lib.hid (by unfold styleP; rw [if_neg (by omega), if_neg (by omega), if_neg (by omega), if_neg (by omega)])
  have hl : decide (style < 0) = false := by simp; omega
  go_enter Tryd.func15, Tryd.ntmps15
  go_wp2_with fail
  go_ret
  exact ⟨by rw [HS.out]; rfl, Below.refl _ _⟩

set_option maxHeartbeats 2000000 in
set_option maxRecDepth 100000 in
theorem refStyle_any (style : Int) (own : ByteArray) (t n o : Int) (w : World) (hz : own.size ≤ 1000000) (t0 : -9223372036854775808 ≤ t) (t1 : t ≤ 9223372036854775807) (n0 : -9223372036854775808 ≤ n) (n1 : n ≤ 9223372036854775807) (o0 : -9223372036854775808 ≤ o) (o1 : o ≤ 9223372036854775807) :
    Calls Tryd.prog 15 #[.int .i64 style, .string own, .int .i64 t, .int .i64 n, .int .i64 o] w fun e w' => e = .returned (.string (txt (styleP style own.data.toList t n o))) ∧ Below w.heap.size w w' := by
  by_cases h0 : style = 0
  · subst h0
    cases hr : recentB t n with
    | true => exact refStyle_0t own t n o w hz t0 t1 n0 n1 o0 o1 hr
    | false => exact refStyle_0f own t n o w hz t0 t1 n0 n1 o0 o1 hr
  by_cases h1 : style = 1
  · subst h1; exact refStyle_1 own t n o w hz t0 t1 n0 n1 o0 o1
  by_cases h2 : style = 2
  · subst h2; exact refStyle_2 own t n o w hz t0 t1 n0 n1 o0 o1
  by_cases h3 : style = 3
  · subst h3; exact refStyle_3 own t n o w hz t0 t1 n0 n1 o0 o1
  by_cases h4 : style < 0
  · exact refStyle_lo style own t n o w hz t0 t1 n0 n1 o0 o1 h4
  · exact refStyle_hi style own t n o w hz t0 t1 n0 n1 o0 o1 (by omega)
end Go.Proofs.YtiegibgllnojcaaDoor
