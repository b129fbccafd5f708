/-
  What Recent and Style return, the program's and the reference's.
  Conditions: each fact's own.
-/
import Derived.Test.YtfhagjnlliafiaaGreatDoorKSRefFmt
import Derived.Test.YtfhagjnlliafiaaGreatDoorKPBoxes
import Derived.Test.YtfhagjnlliafiaaGreatDoorKIRefT
import Derived.Test.YtfhagjnlliafiaaGreatDoorKPTextAny
import Derived.Deep.CutRange
set_option linter.unusedSimpArgs false
set_option linter.unusedVariables false
set_option maxHeartbeats 8000000
set_option maxRecDepth 100000
namespace Go.Proofs.YtfhagjnlliafiaaGreatDoor.S
open Go.Proofs.YtfhagjnlliafiaaGreatDoor.D Go.Proofs.YtfhagjnlliafiaaGreatDoor.N
open Go.RowKit
def recentB (t n : Int) : Bool := decide (t ≤ n ∧ n - t < 15778476)
theorem u64_diff {t n : Int} (t0 : -9223372036854775808 ≤ t) (t1 : t ≤ 9223372036854775807) (n0 : -9223372036854775808 ≤ n) (n1 : n ≤ 9223372036854775807) (h : t ≤ n) :
    IntKind.u64.wrap (IntKind.u64.wrap n - IntKind.u64.wrap t) = n - t := by
  have e : ∀ x : Int, IntKind.u64.wrap x = x % 18446744073709551616 := fun x => rfl
  rw [e, e, e]
  omega
theorem recent_any (t n : Int) (w : World) (t0 : -9223372036854775808 ≤ t) (t1 : t ≤ 9223372036854775807) (n0 : -9223372036854775808 ≤ n) (n1 : n ≤ 9223372036854775807) :
    Calls Tryz.prog 111 #[.int .i64 t, .int .i64 n] w fun e w' => e = .returned (.bool (recentB t n)) ∧ w = w' := by
  by_cases h : t ≤ n
  · have e := u64_diff t0 t1 n0 n1 h
    have HE : Hid (recentB t n = decide (n - t < 15778476)) := Lib.hid (by unfold recentB; exact decide_eq_decide.2 ⟨fun x => x.2, fun x => ⟨h, x⟩⟩)
    have EW := Lib.hid e
    clear e
    go_enter Tryz.func111, Tryz.ntmps111
    go_wp2_with fail
    go_ret
    exact ⟨ret_bool (by rw [EW.out, HE.out]), rfl⟩
  · have HE : Hid (recentB t n = false) := Lib.hid (by unfold recentB; exact decide_eq_false (fun x => h x.1))
    go_enter Tryz.func111, Tryz.ntmps111
    go_wp2_with fail
    go_ret
    exact ⟨ret_bool HE.out.symm, rfl⟩
theorem fmtT_told {t o : Int} {e : UInt8} {s : List UInt8} (r : List UInt8) (h : oneT t o e = some s) : fmtT t o (37 :: e :: r) = s ++ fmtT t o r := fmtL_told _ _ h
theorem fmtT_plain (t o : Int) {c : UInt8} (r : List UInt8) (h : c ≠ 37) : fmtT t o (c :: r) = c :: fmtT t o r := fmtL_plain _ _ h
theorem fmtT_append (t o : Int) (f g : List UInt8) (h : f.getLast? ≠ some 37) : fmtT t o (f ++ g) = fmtT t o f ++ fmtT t o g := fmtL_append _ g f.length f (Nat.le_refl _) h
theorem fmtT_F (t o : Int) (r : List UInt8) : fmtT t o (37 :: 70 :: r) = fmtT t o (37 :: 89 :: 45 :: 37 :: 109 :: 45 :: 37 :: 100 :: r) := by
  rw [fmtT_told (e := 70) r rfl, fmtT_told (e := 89) _ rfl, fmtT_plain _ _ _ (by decide), fmtT_told (e := 109) _ rfl, fmtT_plain _ _ _ (by decide), fmtT_told (e := 100) _ rfl]
  simp only [List.append_assoc, List.cons_append, List.nil_append]
theorem fmtT_T (t o : Int) (r : List UInt8) : fmtT t o (37 :: 84 :: r) = fmtT t o (37 :: 72 :: 58 :: 37 :: 77 :: 58 :: 37 :: 83 :: r) := by
  rw [fmtT_told (e := 84) r rfl, fmtT_told (e := 72) _ rfl, fmtT_plain _ _ _ (by decide), fmtT_told (e := 77) _ rfl, fmtT_plain _ _ _ (by decide), fmtT_told (e := 83) _ rfl]
  simp only [List.append_assoc, List.cons_append, List.nil_append]
def styleP (style : Int) (own : List UInt8) (t n o : Int) : List UInt8 :=
  if style = 0 then (if recentB t n then fmtT t o [37, 98, 32, 37, 101, 32, 37, 72, 58, 37, 77] else fmtT t o [37, 98, 32, 37, 101, 32, 32, 37, 89])
  else if style = 1 then fmtT t o [37, 70, 32, 37, 72, 58, 37, 77]
  else if style = 2 then fmtT t o [37, 70, 32, 37, 84, 32, 37, 122]
  else if style = 3 then fmtT t o own
  else []
theorem style_one (t o : Int) : fmtT t o [37, 89, 45, 37, 109, 45, 37, 100, 32, 37, 72, 58, 37, 77] = fmtT t o [37, 70, 32, 37, 72, 58, 37, 77] := (fmtT_F t o _).symm
theorem style_two (t o : Int) : fmtT t o [37, 89, 45, 37, 109, 45, 37, 100, 32, 37, 72, 58, 37, 77, 58, 37, 83, 32, 37, 122] = fmtT t o [37, 70, 32, 37, 84, 32, 37, 122] := by
  rw [fmtT_F]
  have a := fmtT_append t o [37, 89, 45, 37, 109, 45, 37, 100, 32] [37, 72, 58, 37, 77, 58, 37, 83, 32, 37, 122] (by decide)
  have b := fmtT_append t o [37, 89, 45, 37, 109, 45, 37, 100, 32] [37, 84, 32, 37, 122] (by decide)
  rw [fmtT_T] at b
  exact a.trans b.symm
theorem fmt_from {t o : Int} {S : List UInt8} (l : Array UInt8) (hl : l.size ≤ 1000000) (w : World) (hT : STab w) (t0 : -9223372036854775808 ≤ t) (t1 : t ≤ 9223372036854775807) (o0 : -9223372036854775808 ≤ o) (o1 : o ≤ 9223372036854775807) (hS : fmtT t o l.toList = S) :
    Calls Tryz.prog 112 #[.string ⟨l⟩, .int .i64 t, .int .i64 o] w fun e w' => e = .returned (.string (txt S)) ∧ Below w.heap.size w w' := by
  rw [← hS]
  exact format_any ⟨l⟩ t o w hT hl t0 t1 o0 o1
end Go.Proofs.YtfhagjnlliafiaaGreatDoor.S
namespace Go.Proofs.YtfhagjnlliafiaaGreatDoor.S
open Go.Proofs.YtfhagjnlliafiaaGreatDoor.D Go.Proofs.YtfhagjnlliafiaaGreatDoor.N
open Go.RowKit
theorem style_0t (own : ByteArray) (t n o : Int) (w : World) (hT : STab w) (hz : own.size ≤ 1000000) (t0 : -9223372036854775808 ≤ t) (t1 : t ≤ 9223372036854775807) (n0 : -9223372036854775808 ≤ n) (n1 : n ≤ 9223372036854775807) (o0 : -9223372036854775808 ≤ o) (o1 : o ≤ 9223372036854775807) (hr : recentB t n = true) :
    Calls Tryz.prog 83 #[.int .i64 0, .string own, .int .i64 t, .int .i64 n, .int .i64 o] w fun e w' => e = .returned (.string (txt (styleP 0 own.data.toList t n o))) ∧ Below w.heap.size w w' := by
  have HT := Lib.hid hT
  clear hT
  have cR := recent_any t n w t0 t1 n0 n1
  rw [hr] at cR
  obtain ⟨S, hS⟩ : ∃ S, styleP 0 own.data.toList t n o = S := ⟨_, rfl⟩
  have HS : Hid (fmtT t o (#[37, 98, 32, 37, 101, 32, 37, 72, 58, 37, 77] : Array UInt8).toList = S) := Lib.hid (by rw [← hS]; unfold styleP; rw [if_pos rfl, hr]; rfl)
  rw [hS]
  clear hS
  clear hr
  go_enter Tryz.func83, Tryz.ntmps83
  go_wp2_with fail
  refine (cR).mono ?_
  rintro e w2 ⟨rfl, rfl⟩
  go_wp2_with fail
  refine (fmt_from #[37, 98, 32, 37, 101, 32, 37, 72, 58, 37, 77] (by decide) w HT.out t0 t1 o0 o1 HS.out).mono ?_
  rintro e w2 ⟨rfl, hb⟩
  have HB := Lib.hid hb
  clear hb
  go_wp2_with fail
  go_ret
  exact ⟨rfl, HB.out⟩
theorem style_0f (own : ByteArray) (t n o : Int) (w : World) (hT : STab w) (hz : own.size ≤ 1000000) (t0 : -9223372036854775808 ≤ t) (t1 : t ≤ 9223372036854775807) (n0 : -9223372036854775808 ≤ n) (n1 : n ≤ 9223372036854775807) (o0 : -9223372036854775808 ≤ o) (o1 : o ≤ 9223372036854775807) (hr : recentB t n = false) :
    Calls Tryz.prog 83 #[.int .i64 0, .string own, .int .i64 t, .int .i64 n, .int .i64 o] w fun e w' => e = .returned (.string (txt (styleP 0 own.data.toList t n o))) ∧ Below w.heap.size w w' := by
  have HT := Lib.hid hT
  clear hT
  have cR := recent_any t n w t0 t1 n0 n1
  rw [hr] at cR
  obtain ⟨S, hS⟩ : ∃ S, styleP 0 own.data.toList t n o = S := ⟨_, rfl⟩
  have HS : Hid (fmtT t o (#[37, 98, 32, 37, 101, 32, 32, 37, 89] : Array UInt8).toList = S) := Lib.hid (by rw [← hS]; unfold styleP; rw [if_pos rfl, hr]; rfl)
  rw [hS]
  clear hS
  clear hr
  go_enter Tryz.func83, Tryz.ntmps83
  go_wp2_with fail
  refine (cR).mono ?_
  rintro e w2 ⟨rfl, rfl⟩
  go_wp2_with fail
  refine (fmt_from #[37, 98, 32, 37, 101, 32, 32, 37, 89] (by decide) w HT.out t0 t1 o0 o1 HS.out).mono ?_
  rintro e w2 ⟨rfl, hb⟩
  have HB := Lib.hid hb
  clear hb
  go_wp2_with fail
  go_ret
  exact ⟨rfl, HB.out⟩
theorem style_1 (own : ByteArray) (t n o : Int) (w : World) (hT : STab w) (hz : own.size ≤ 1000000) (t0 : -9223372036854775808 ≤ t) (t1 : t ≤ 9223372036854775807) (n0 : -9223372036854775808 ≤ n) (n1 : n ≤ 9223372036854775807) (o0 : -9223372036854775808 ≤ o) (o1 : o ≤ 9223372036854775807) :
    Calls Tryz.prog 83 #[.int .i64 1, .string own, .int .i64 t, .int .i64 n, .int .i64 o] w fun e w' => e = .returned (.string (txt (styleP 1 own.data.toList t n o))) ∧ Below w.heap.size w w' := by
  have HT := Lib.hid hT
  clear hT
  obtain ⟨S, hS⟩ : ∃ S, styleP 1 own.data.toList t n o = S := ⟨_, rfl⟩
  have HS : Hid (fmtT t o (#[37, 89, 45, 37, 109, 45, 37, 100, 32, 37, 72, 58, 37, 77] : Array UInt8).toList = S) := Lib.hid (by rw [← hS]; exact style_one t o)
  rw [hS]
  clear hS
  go_enter Tryz.func83, Tryz.ntmps83
  go_wp2_with fail
  refine (fmt_from #[37, 89, 45, 37, 109, 45, 37, 100, 32, 37, 72, 58, 37, 77] (by decide) w HT.out t0 t1 o0 o1 HS.out).mono ?_
  rintro e w2 ⟨rfl, hb⟩
  have HB := Lib.hid hb
  clear hb
  go_wp2_with fail
  go_ret
  exact ⟨rfl, HB.out⟩
theorem style_2 (own : ByteArray) (t n o : Int) (w : World) (hT : STab w) (hz : own.size ≤ 1000000) (t0 : -9223372036854775808 ≤ t) (t1 : t ≤ 9223372036854775807) (n0 : -9223372036854775808 ≤ n) (n1 : n ≤ 9223372036854775807) (o0 : -9223372036854775808 ≤ o) (o1 : o ≤ 9223372036854775807) :
    Calls Tryz.prog 83 #[.int .i64 2, .string own, .int .i64 t, .int .i64 n, .int .i64 o] w fun e w' => e = .returned (.string (txt (styleP 2 own.data.toList t n o))) ∧ Below w.heap.size w w' := by
  have HT := Lib.hid hT
  clear hT
  obtain ⟨S, hS⟩ : ∃ S, styleP 2 own.data.toList t n o = S := ⟨_, rfl⟩
  have HS : Hid (fmtT t o (#[37, 89, 45, 37, 109, 45, 37, 100, 32, 37, 72, 58, 37, 77, 58, 37, 83, 32, 37, 122] : Array UInt8).toList = S) := Lib.hid (by rw [← hS]; exact style_two t o)
  rw [hS]
  clear hS
  go_enter Tryz.func83, Tryz.ntmps83
  go_wp2_with fail
  refine (fmt_from #[37, 89, 45, 37, 109, 45, 37, 100, 32, 37, 72, 58, 37, 77, 58, 37, 83, 32, 37, 122] (by decide) w HT.out t0 t1 o0 o1 HS.out).mono ?_
  rintro e w2 ⟨rfl, hb⟩
  have HB := Lib.hid hb
  clear hb
  go_wp2_with fail
  go_ret
  exact ⟨rfl, HB.out⟩
theorem style_3 (own : ByteArray) (t n o : Int) (w : World) (hT : STab w) (hz : own.size ≤ 1000000) (t0 : -9223372036854775808 ≤ t) (t1 : t ≤ 9223372036854775807) (n0 : -9223372036854775808 ≤ n) (n1 : n ≤ 9223372036854775807) (o0 : -9223372036854775808 ≤ o) (o1 : o ≤ 9223372036854775807) :
    Calls Tryz.prog 83 #[.int .i64 3, .string own, .int .i64 t, .int .i64 n, .int .i64 o] w fun e w' => e = .returned (.string (txt (styleP 3 own.data.toList t n o))) ∧ Below w.heap.size w w' := by
  have HT := Lib.hid hT
  clear hT
  obtain ⟨S, hS⟩ : ∃ S, styleP 3 own.data.toList t n o = S := ⟨_, rfl⟩
  have HS : Hid (fmtT t o own.data.toList = S) := Lib.hid (by rw [← hS]; rfl)
  rw [hS]
  clear hS
  go_enter Tryz.func83, Tryz.ntmps83
  go_wp2_with fail
  refine (format_any own t o w HT.out hz t0 t1 o0 o1).mono ?_
  rintro e w2 ⟨rfl, hb⟩
  have HB := Lib.hid hb
  clear hb
  go_wp2_with fail
  go_ret
  exact ⟨(congrArg (fun s => Ending.returned (.string (txt s))) HS.out), HB.out⟩
theorem style_none (style : Int) (own : ByteArray) (t n o : Int) (w : World) (hT : STab w) (hz : own.size ≤ 1000000) (t0 : -9223372036854775808 ≤ t) (t1 : t ≤ 9223372036854775807) (n0 : -9223372036854775808 ≤ n) (n1 : n ≤ 9223372036854775807) (o0 : -9223372036854775808 ≤ o) (o1 : o ≤ 9223372036854775807) (h0 : style ≠ 0) (h1 : style ≠ 1) (h2 : style ≠ 2) (h3 : style ≠ 3) :
    Calls Tryz.prog 83 #[.int .i64 style, .string own, .int .i64 t, .int .i64 n, .int .i64 o] w fun e w' => e = .returned (.string (txt (styleP style own.data.toList t n o))) ∧ Below w.heap.size w w' := by
  have HS : Hid (styleP style own.data.toList t n o = []) := Lib.hid (by unfold styleP; rw [if_neg h0, if_neg h1, if_neg h2, if_neg h3])
  have q0 : (style == 0) = false := beq_eq_false_iff_ne.2 h0
  have q1 : (style == 1) = false := beq_eq_false_iff_ne.2 h1
  have q2 : (style == 2) = false := beq_eq_false_iff_ne.2 h2
  have q3 : (style == 3) = false := beq_eq_false_iff_ne.2 h3
  go_enter Tryz.func83, Tryz.ntmps83
  go_wp2_with fail
  go_ret
  exact ⟨by rw [HS.out]; rfl, Below.refl _ _⟩
theorem style_any (style : Int) (own : ByteArray) (t n o : Int) (w : World) (hT : STab w) (hz : own.size ≤ 1000000) (t0 : -9223372036854775808 ≤ t) (t1 : t ≤ 9223372036854775807) (n0 : -9223372036854775808 ≤ n) (n1 : n ≤ 9223372036854775807) (o0 : -9223372036854775808 ≤ o) (o1 : o ≤ 9223372036854775807) :
    Calls Tryz.prog 83 #[.int .i64 style, .string own, .int .i64 t, .int .i64 n, .int .i64 o] w fun e w' => e = .returned (.string (txt (styleP style own.data.toList t n o))) ∧ Below w.heap.size w w' := by
  by_cases h0 : style = 0
  · subst h0
    cases hr : recentB t n with
    | true => exact style_0t own t n o w hT hz t0 t1 n0 n1 o0 o1 hr
    | false => exact style_0f own t n o w hT hz t0 t1 n0 n1 o0 o1 hr
  by_cases h1 : style = 1
  · subst h1; exact style_1 own t n o w hT hz t0 t1 n0 n1 o0 o1
  by_cases h2 : style = 2
  · subst h2; exact style_2 own t n o w hT hz t0 t1 n0 n1 o0 o1
  by_cases h3 : style = 3
  · subst h3; exact style_3 own t n o w hT hz t0 t1 n0 n1 o0 o1
  exact style_none style own t n o w hT hz t0 t1 n0 n1 o0 o1 h0 h1 h2 h3
end Go.Proofs.YtfhagjnlliafiaaGreatDoor.S
namespace Go.Proofs.YtfhagjnlliafiaaGreatDoor.P
open Go.RowKit
def markL (k m : Int) : List UInt8 := if k = 2 then [47] else if k = 3 then [64] else if k = 1 ∧ anyB m = true then [42] else []
theorem mark_any (n : Nv) (w : World) (ht : Tab w) :
    Calls Tryz.prog 114 #[nodeV n] w fun e w' => e = .returned (.string (txt (markL n.kind n.mode))) ∧ Below w.heap.size w w' := by
  have HT := Lib.hid ht
  clear ht
  have HS := Lib.hid (searched_any n)
  unfold nodeV at HS
  unfold nodeV
  by_cases h2 : n.kind = 2
  · have HR := Lib.hid (show markL n.kind n.mode = [47] by unfold markL; rw [if_pos h2])
    have t2 : (n.kind == 2) = true := beq_iff_eq.2 h2
    clear h2
    go_enter Tryz.func114, Tryz.ntmps114
    go_wp2
    go_ret
    exact ⟨by rw [HR.out]; rfl, by (repeat (first | (with_reducible apply Below.setCell (hp := ?_)) | (with_reducible apply Below.alloc (hB := ?_)) | (with_reducible exact Below.refl _ _) | (simp; done) | omega))⟩
  · have t2 : (n.kind == 2) = false := beq_eq_false_iff_ne.2 h2
    by_cases h3 : n.kind = 3
    · have HR := Lib.hid (show markL n.kind n.mode = [64] by unfold markL; rw [if_neg h2, if_pos h3])
      have t3 : (n.kind == 3) = true := beq_iff_eq.2 h3
      clear h2 h3
      go_enter Tryz.func114, Tryz.ntmps114
      go_wp2
      go_ret
      exact ⟨by rw [HR.out]; rfl, by (repeat (first | (with_reducible apply Below.setCell (hp := ?_)) | (with_reducible apply Below.alloc (hB := ?_)) | (with_reducible exact Below.refl _ _) | (simp; done) | omega))⟩
    · have t3 : (n.kind == 3) = false := beq_eq_false_iff_ne.2 h3
      by_cases h1 : n.kind = 1
      · have t1 : (n.kind == 1) = true := beq_iff_eq.2 h1
        cases ha : anyB n.mode
        · have HR := Lib.hid (show markL n.kind n.mode = [] by unfold markL; rw [if_neg h2, if_neg h3, if_neg (by rw [ha]; simp)])
          rw [ha] at HS
          clear h2 h3 h1 ha
          go_enter Tryz.func114, Tryz.ntmps114
          go_wp2_with fail
          refine (HS.out _ (HT.out.keep (by (repeat (first | (with_reducible apply Below.setCell (hp := ?_)) | (with_reducible apply Below.alloc (hB := ?_)) | (with_reducible exact Below.refl _ _) | (simp; done) | omega))))).mono ?_
          rintro e w1 ⟨rfl, hb1⟩
          have HB := Lib.hid (show Below w.heap.size w w1 from (show Below w.heap.size w _ from by (repeat (first | (with_reducible apply Below.setCell (hp := ?_)) | (with_reducible apply Below.alloc (hB := ?_)) | (with_reducible exact Below.refl _ _) | (simp; done) | omega))).trans (hb1.mono (by simp)))
          clear hb1
          go_wp2_with fail
          go_ret
          exact ⟨by rw [HR.out]; rfl, HB.out⟩
        · have HR := Lib.hid (show markL n.kind n.mode = [42] by unfold markL; rw [if_neg h2, if_neg h3, if_pos ⟨h1, ha⟩])
          rw [ha] at HS
          clear h2 h3 h1 ha
          go_enter Tryz.func114, Tryz.ntmps114
          go_wp2_with fail
          refine (HS.out _ (HT.out.keep (by (repeat (first | (with_reducible apply Below.setCell (hp := ?_)) | (with_reducible apply Below.alloc (hB := ?_)) | (with_reducible exact Below.refl _ _) | (simp; done) | omega))))).mono ?_
          rintro e w1 ⟨rfl, hb1⟩
          have HB := Lib.hid (show Below w.heap.size w w1 from (show Below w.heap.size w _ from by (repeat (first | (with_reducible apply Below.setCell (hp := ?_)) | (with_reducible apply Below.alloc (hB := ?_)) | (with_reducible exact Below.refl _ _) | (simp; done) | omega))).trans (hb1.mono (by simp)))
          clear hb1
          go_wp2_with fail
          go_ret
          exact ⟨by rw [HR.out]; rfl, HB.out⟩
      · have HR := Lib.hid (show markL n.kind n.mode = [] by unfold markL; rw [if_neg h2, if_neg h3, if_neg (by simp [h1])])
        have t1 : (n.kind == 1) = false := beq_eq_false_iff_ne.2 h1
        clear h2 h3 h1
        go_enter Tryz.func114, Tryz.ntmps114
        go_wp2
        go_ret
        exact ⟨by rw [HR.out]; rfl, by (repeat (first | (with_reducible apply Below.setCell (hp := ?_)) | (with_reducible apply Below.alloc (hB := ?_)) | (with_reducible exact Below.refl _ _) | (simp; done) | omega))⟩
end Go.Proofs.YtfhagjnlliafiaaGreatDoor.P
namespace Go.Proofs.YtfhagjnlliafiaaGreatDoor.I
open Go.Proofs.YtfhagjnlliafiaaGreatDoor.B
open Go.RowKit
structure QI (h : Hw) (qf : ByteArray → ByteArray) (w : World) : Prop where
  quote : ∀ (s : ByteArray) (X : World), s.size ≤ 60000 → Below w.heap.size w X → Calls Tryz.prog 113 #[.int .i64 h.quote, .string s] X fun e w' => e = .returned (.string (qf s)) ∧ Below X.heap.size X w'
  size : ∀ s : ByteArray, s.size ≤ 60000 → (qf s).size ≤ 7 * s.size + 2
theorem QI.keep {h : Hw} {qf : ByteArray → ByteArray} {w w' : World} (H : QI h qf w) (hb : Below w.heap.size w w') : QI h qf w' := ⟨fun s X hs hX => H.quote s X hs (hb.trans (hX.mono hb.size)), H.size⟩
def mkI (h : Hw) (qf : ByteArray → ByteArray) (s : ByteArray) (n : P.Nv) : ByteArray := if h.mark = true then qf s ++ P.txt (P.markL n.kind n.mode) else qf s
def arrow : ByteArray := ⟨#[32, 45, 62, 32]⟩
def nameI (M : List V.Nd) (h : Hw) (qf : ByteArray → ByteArray) (s : ByteArray) (i : Int) (n : P.Nv) : ByteArray := if h.form = 4 ∧ n.kind = 3 then mkI h qf s n ++ (arrow ++ qf (V.linkT M i)) else mkI h qf s n
theorem markL_len (k m : Int) : (P.markL k m).length ≤ 1 := by
  unfold P.markL
  repeat' split
  all_goals simp
theorem mkI_size (h : Hw) {qf : ByteArray → ByteArray} (hq : ∀ s : ByteArray, s.size ≤ 60000 → (qf s).size ≤ 7 * s.size + 2) (s : ByteArray) (hs : s.size ≤ 60000) (n : P.Nv) : (mkI h qf s n).size ≤ 7 * s.size + 3 := by
  have h1 := hq s hs
  unfold mkI
  split
  · have h2 := markL_len n.kind n.mode
    rw [ByteArray.size_append, P.txt_size]
    omega
  · omega
theorem nameI_size (M : List V.Nd) (hG : GoodI M) (h : Hw) {qf : ByteArray → ByteArray} (hq : ∀ s : ByteArray, s.size ≤ 60000 → (qf s).size ≤ 7 * s.size + 2) (s : ByteArray) (hs : s.size ≤ 60000) (i : Int) (n : P.Nv) : (nameI M h qf s i n).size ≤ 7 * s.size + 36000 := by
  have h1 := mkI_size h hq s hs n
  have h3 := hG.text i
  have h2 := hq (V.linkT M i) (by omega)
  unfold nameI
  split
  · rw [ByteArray.size_append, ByteArray.size_append]
    have : arrow.size = 4 := rfl
    omega
  · omega
structure ITab (w : World) : Prop where
  p : P.Tab w
  s : S.STab w
theorem ITab.keep {w w' : World} (h : ITab w) (hb : Below w.heap.size w w') : ITab w' := ⟨h.p.keep hb, h.s.keep hb⟩
theorem name_any {M : List V.Nd} {p : Nat} (h : Hw) (qf : ByteArray → ByteArray) (s : ByteArray) (k i : Int) (n : P.Nv) (v0 w : World) (hf : V.Has v0 p M w) (hG : GoodI M) (ht : ITab w) (hq : QI h qf w) (hs : s.size ≤ 60000) :
    Calls Tryz.prog 84 #[itV s k i n, .pointer (some ⟨p, 0, none⟩), hwV h] w fun e w' => e = .returned (.string (nameI M h qf s i n)) ∧ Below w.heap.size w w' := by
  have HQ := Lib.hid (fun (W : World) (hb : Below w.heap.size w W) => hq.quote s W hs hb)
  have HQ2 := Lib.hid (fun (W : World) (hb : Below w.heap.size w W) => hq.quote (V.linkT M i) W (by have := hG.text i; omega) hb)
  have HMk := Lib.hid (fun (W : World) (hb : Below w.heap.size w W) => P.mark_any n W (ht.p.keep hb))
  have HLk := Lib.hid (fun (W : World) (hb : Below w.heap.size w W) => V.has_link i (hf.keep hb) hG.pos)
  have HS1 := Lib.hid (hq.size s hs)
  have HS2 := Lib.hid (show (qf (V.linkT M i)).size ≤ 36000 from by have h2 := hG.text i; have h1 := hq.size (V.linkT M i) (by omega); omega)
  have HS3 := Lib.hid (show (P.txt (P.markL n.kind n.mode)).size ≤ 1 from by rw [P.txt_size]; exact markL_len _ _)
  have HS4 := Lib.hid (mkI_size h hq.size s hs n)
  have HNm := Lib.hid (show nameI M h qf s i n = if h.form = 4 ∧ n.kind = 3 then mkI h qf s n ++ (arrow ++ qf (V.linkT M i)) else mkI h qf s n from rfl)
  have HMm := Lib.hid (show mkI h qf s n = if h.mark = true then qf s ++ P.txt (P.markL n.kind n.mode) else qf s from rfl)
  unfold P.nodeV at HMk
  clear hf hG ht hq
  unfold arrow at HNm
  generalize nameI M h qf s i n = R at HNm ⊢
  generalize mkI h qf s n = A at HNm HMm HS4
  generalize hq2 : qf (V.linkT M i) = q2 at HNm HS2 HQ2
  generalize hq1 : qf s = q1 at HMm HS1 HQ
  clear hq1 hq2
  generalize V.linkT M i = lt at HQ2 HLk
  generalize V.linkE M i = le at HLk
  generalize P.txt (P.markL n.kind n.mode) = mk at HMm HS3 HMk
  unfold itV hwV
  go_enter Tryz.func84, Tryz.ntmps84
  go_upto_region 1 with fail
  obtain ⟨B0, hB0⟩ : ∃ B0, w.heap.size = B0 := ⟨_, rfl⟩
  obtain ⟨w1, hw1⟩ : ∃ w1, (w.alloc (.cells #[.string s, .int .i64 k, .int .i64 i, .int .i64 n.dev, .int .i64 n.ino, .int .i64 n.kind, .int .i64 n.mode, .int .i64 n.uid, .int .i64 n.gid, .int .i64 n.size, .int .i64 n.blocks, .int .i64 n.links, .int .i64 n.ta, .int .i64 n.tb, .int .i64 n.tc, .string n.target] 65)).alloc (.cells #[.int .i64 h.form, .int .i64 h.most, .int .i64 h.order, .bool h.rev, .bool h.dirs, .int .i64 h.clock, .int .i64 h.quote, .bool h.mark, .bool h.inode, .bool h.blocks, .int .i64 h.style, .string h.own, .int .i64 h.now, .int .i64 h.offset] 25) = w1 := ⟨_, rfl⟩
  have HB1 := Lib.hid (show Below w.heap.size w w1 from by rw [← hw1]; exact below_a2 _ _ _)
  have HX1 := Lib.hid (show w1.heap[B0]? = some (.cells #[.string s, .int .i64 k, .int .i64 i, .int .i64 n.dev, .int .i64 n.ino, .int .i64 n.kind, .int .i64 n.mode, .int .i64 n.uid, .int .i64 n.gid, .int .i64 n.size, .int .i64 n.blocks, .int .i64 n.links, .int .i64 n.ta, .int .i64 n.tb, .int .i64 n.tc, .string n.target] 65) ∧ w1.heap[B0 + 1]? = some (.cells #[.int .i64 h.form, .int .i64 h.most, .int .i64 h.order, .bool h.rev, .bool h.dirs, .int .i64 h.clock, .int .i64 h.quote, .bool h.mark, .bool h.inode, .bool h.blocks, .int .i64 h.style, .string h.own, .int .i64 h.now, .int .i64 h.offset] 25) from by
    rw [← hw1, ← hB0]
    refine ⟨(heap_alloc_old _ _ (by simp)).trans (heap_alloc_new _ _), ?_⟩
    have e : w.heap.size + 1 = (w.alloc (.cells #[.string s, .int .i64 k, .int .i64 i, .int .i64 n.dev, .int .i64 n.ino, .int .i64 n.kind, .int .i64 n.mode, .int .i64 n.uid, .int .i64 n.gid, .int .i64 n.size, .int .i64 n.blocks, .int .i64 n.links, .int .i64 n.ta, .int .i64 n.tb, .int .i64 n.tc, .string n.target] 65)).heap.size := by simp
    rw [e]
    exact heap_alloc_new _ _)
  rw [hw1, hB0]
  clear hw1 hB0
  generalize B0 + 1 = B1 at HX1 ⊢
  have HC := Lib.hid (show ∀ W, Below w1.heap.size w1 W → W.heap[B0]? = some (.cells #[.string s, .int .i64 k, .int .i64 i, .int .i64 n.dev, .int .i64 n.ino, .int .i64 n.kind, .int .i64 n.mode, .int .i64 n.uid, .int .i64 n.gid, .int .i64 n.size, .int .i64 n.blocks, .int .i64 n.links, .int .i64 n.ta, .int .i64 n.tb, .int .i64 n.tc, .string n.target] 65) ∧ W.heap[B1]? = some (.cells #[.int .i64 h.form, .int .i64 h.most, .int .i64 h.order, .bool h.rev, .bool h.dirs, .int .i64 h.clock, .int .i64 h.quote, .bool h.mark, .bool h.inode, .bool h.blocks, .int .i64 h.style, .string h.own, .int .i64 h.now, .int .i64 h.offset] 25) from fun W hb => ⟨(hb.block _ (heap_lt HX1.out.1)).trans HX1.out.1, (hb.block _ (heap_lt HX1.out.2)).trans HX1.out.2⟩)
  clear HX1
  obtain ⟨x0, y0⟩ := HC.out _ (Below.refl _ _)
  have i0 : w1.cell? ⟨B0, 0, none⟩ = some (.string s) := by rw [cell_of_row _ _ _ _ _ _ x0]; rfl
  have h6 : w1.cell? ⟨B1, 6, none⟩ = some (.int .i64 h.quote) := by rw [cell_of_row _ _ _ _ _ _ y0]; rfl
  clear x0 y0
  go_wp2_with fail
  refine (HQ.out _ HB1.out).mono ?_
  rintro e w2 ⟨rfl, hb2⟩
  have HB2 := Lib.hid hb2
  have HBw2 := Lib.hid (below_two HB1.out hb2)
  clear hb2 i0 h6 HQ
  obtain ⟨x2, y2⟩ := HC.out _ HB2.out
  have HN2 := Lib.hid (show w2.rangeAt B0 3 [.int .i64 n.dev, .int .i64 n.ino, .int .i64 n.kind, .int .i64 n.mode, .int .i64 n.uid, .int .i64 n.gid, .int .i64 n.size, .int .i64 n.blocks, .int .i64 n.links, .int .i64 n.ta, .int .i64 n.tb, .int .i64 n.tc, .string n.target] from range_mid (xs := [.string s, .int .i64 k, .int .i64 i]) (ys := []) x2)
  have m7 : w2.cell? ⟨B1, 7, none⟩ = some (.bool h.mark) := by rw [cell_of_row _ _ _ _ _ _ y2]; rfl
  clear x2 y2
  go_upto_if 17 with fail
  clear m7
  obtain ⟨b, hb⟩ : ∃ b, h.mark = b := ⟨_, rfl⟩
  rw [hb] at HMm ⊢
  go_cut [7] from 16 to 22 (fun a7 wx => a7 = .string A ∧ Below w1.heap.size w1 wx)
  case first =>
    clear hb
    cases b with
    | true =>
      have HA := Lib.hid (show A = q1 ++ mk from by rw [HMm.out, if_pos rfl])
      go_wp2_with (refine wpList_load_mid rfl 63 (.tmp 19) rfl B0 3 rfl _ _ HN2.out Tryz.underlying63 rfl sizeN ?_)
      refine (HMk.out _ HBw2.out).mono ?_
      rintro e w3 ⟨rfl, hb3⟩
      have HB3 := Lib.hid (HB2.out.trans (hb3.mono HB2.out.size))
      clear hb3
      have hadd := run_string_add_sum (P := Tryz.prog) (w := w3) q1 mk (by have := HS1.out; have := HS3.out; omega)
      go_wp2_with fail
      go_meet
      exact ⟨by rw [HA.out], HB3.out⟩
    | false =>
      have HA := Lib.hid (show A = q1 from by rw [HMm.out]; rfl)
      go_wp2_with fail
      go_meet
      exact ⟨by rw [HA.out], HB2.out⟩
  case rest =>
    obtain ⟨rfl, hbc⟩ := hcut
    have HBc := Lib.hid hbc
    have HBwc := Lib.hid (below_two HB1.out hbc)
    clear hbc hb HN2 HMm HMk HB2 HBw2
    obtain ⟨x2, y2⟩ := HC.out _ HBc.out
    have k5 : wc.cell? ⟨B0, 5, none⟩ = some (.int .i64 n.kind) := by rw [cell_of_row _ _ _ _ _ _ x2]; rfl
    have i2 : wc.cell? ⟨B0, 2, none⟩ = some (.int .i64 i) := by rw [cell_of_row _ _ _ _ _ _ x2]; rfl
    have f0 : wc.cell? ⟨B1, 0, none⟩ = some (.int .i64 h.form) := by rw [cell_of_row _ _ _ _ _ _ y2]; rfl
    have q6 : wc.cell? ⟨B1, 6, none⟩ = some (.int .i64 h.quote) := by rw [cell_of_row _ _ _ _ _ _ y2]; rfl
    clear x2 y2
    by_cases hfo : h.form = 4
    · have e4 : (h.form == 4) = true := beq_iff_eq.2 hfo
      by_cases hki : n.kind = 3
      · have e3 : (n.kind == 3) = true := beq_iff_eq.2 hki
        have HR := Lib.hid (show R = A ++ (⟨#[32, 45, 62, 32]⟩ ++ q2) from by rw [HNm.out, if_pos ⟨hfo, hki⟩])
        clear hfo hki
        go_wp2_with fail
        refine (HLk.out _ HBwc.out).mono ?_
        rintro e w4 ⟨rfl, rfl⟩
        go_wp2_with fail
        refine (HQ2.out _ HBwc.out).mono ?_
        rintro e w5 ⟨rfl, hb5⟩
        have HB5 := Lib.hid (below_two HBwc.out hb5)
        clear hb5
        have hadd1 := run_string_add_sum (P := Tryz.prog) (w := w5) ⟨#[32, 45, 62, 32]⟩ q2 (by have := HS2.out; show 4 + _ ≤ _; omega)
        have hadd2 := run_string_add_sum (P := Tryz.prog) (w := w5) A (⟨#[32, 45, 62, 32]⟩ ++ q2) (by have := HS2.out; have := HS4.out; rw [ByteArray.size_append]; show _ + (4 + _) ≤ _; omega)
        go_wp2_with fail
        go_ret
        exact ⟨by rw [HR.out]; rfl, HB5.out⟩
      · have e3 : (n.kind == 3) = false := beq_eq_false_iff_ne.2 hki
        have HR := Lib.hid (show R = A from by rw [HNm.out, if_neg (fun q => hki q.2)])
        clear hfo hki
        go_wp2_with fail
        go_ret
        exact ⟨by rw [HR.out]; rfl, HBwc.out⟩
    · have e4 : (h.form == 4) = false := beq_eq_false_iff_ne.2 hfo
      have HR := Lib.hid (show R = A from by rw [HNm.out, if_neg (fun q => hfo q.1)])
      clear hfo
      go_wp2_with fail
      go_ret
      exact ⟨by rw [HR.out]; rfl, HBwc.out⟩
end Go.Proofs.YtfhagjnlliafiaaGreatDoor.I
