/-
  The law StampStyles, walked: it returns true. Conditions: the numbers are int64s; the library's tables and the package's lie as their text lays them.
-/
import Derived.Test.YtiegibgllnojcaaDoorSLaws
import Derived.BigQuiet
set_option linter.unusedVariables false
namespace Go.Proofs.YtiegibgllnojcaaDoor
open Go.RowKit

/-- What is asked, in its block; nothing that lay there when the call began has changed. -/
structure InAsk (w : World) (style : Int) (own : ByteArray) (t n o : Int) (w0 : World) : Prop where
  below : Below w.heap.size w w0
  lt : w.heap.size < w0.heap.size
  c0 : w0.cell? ⟨w.heap.size, 0, none⟩ = some (.int .i64 style)
  c1 : w0.cell? ⟨w.heap.size, 1, none⟩ = some (.string own)
  c2 : w0.cell? ⟨w.heap.size, 2, none⟩ = some (.int .i64 t)
  c3 : w0.cell? ⟨w.heap.size, 3, none⟩ = some (.int .i64 n)
  c4 : w0.cell? ⟨w.heap.size, 4, none⟩ = some (.int .i64 o)
theorem InAsk.start (w : World) (style : Int) (own : ByteArray) (t n o : Int) : InAsk w style own t n o (w.alloc (.cells #[.int .i64 style, .string own, .int .i64 t, .int .i64 n, .int .i64 o] 31)) := by
  refine ⟨(Below.refl _ _).alloc (Nat.le_refl _) _, by simp, ?_, ?_, ?_, ?_, ?_⟩
  all_goals simp [go_sem]
theorem InAsk.keep {w w0 w' : World} {style : Int} {own : ByteArray} {t n o : Int} (k : InAsk w style own t n o w0) (hb : Below w0.heap.size w0 w') : InAsk w style own t n o w' := by
  have l := k.lt
  have hs := hb.size
  exact ⟨below_two k.below (hb.mono (Nat.le_refl _)), by omega,
    by rw [hb.cell (p := ⟨w.heap.size, 0, none⟩) l]; exact k.c0, by rw [hb.cell (p := ⟨w.heap.size, 1, none⟩) l]; exact k.c1, by rw [hb.cell (p := ⟨w.heap.size, 2, none⟩) l]; exact k.c2, by rw [hb.cell (p := ⟨w.heap.size, 3, none⟩) l]; exact k.c3, by rw [hb.cell (p := ⟨w.heap.size, 4, none⟩) l]; exact k.c4⟩
theorem InAsk.drew {w w0 : World} {style : Int} {own : ByteArray} {t n o : Int} (k : InAsk w style own t n o w0) : InAsk w style own t n o w0.drew := k.keep ⟨rfl, rfl, rfl, Nat.le_refl _, fun _ _ => rfl⟩
theorem awake_ask {w w0 : World} {style : Int} {own : ByteArray} {t n o : Int} (k : InAsk w style own t n o w0) (hT : STab w) :
    Calls Tryd.prog 9 #[] w0 fun e w' => e = .returned (.bool true) ∧ InAsk w style own t n o w' :=
  (awake_any w0 (hT.keep k.below)).mono fun e w' ⟨he, hb⟩ => ⟨he, k.keep hb⟩

theorem ask_of {f : FuncId} {args : Array Value} {v : Value} {w w0 : World} {style : Int} {own : ByteArray} {t n o : Int} (k : InAsk w style own t n o w0) (h : Calls Tryd.prog f args w0 fun e w' => e = .returned v ∧ Below w0.heap.size w0 w') :
    Calls Tryd.prog f args w0 fun e w' => e = .returned v ∧ InAsk w style own t n o w' := h.mono fun e w' ⟨he, hb⟩ => ⟨he, k.keep hb⟩
theorem ask_same {f : FuncId} {args : Array Value} {v : Value} {w w0 : World} {style : Int} {own : ByteArray} {t n o : Int} (k : InAsk w style own t n o w0) (h : Calls Tryd.prog f args w0 fun e w' => e = .returned v ∧ w0 = w') :
    Calls Tryd.prog f args w0 fun e w' => e = .returned v ∧ InAsk w style own t n o w' := h.mono fun e w' ⟨he, hb⟩ => ⟨he, hb ▸ k⟩
set_option maxHeartbeats 20000000 in
set_option maxRecDepth 100000 in
theorem styles_walk (style : Int) (own : ByteArray) (t n o : Int) (w : World) (hz : own.size ≤ 9223372036854775807) (t0 : -9223372036854775808 ≤ t) (t1 : t ≤ 9223372036854775807) (n0 : -9223372036854775808 ≤ n) (n1 : n ≤ 9223372036854775807) (o0 : -9223372036854775808 ≤ o) (o1 : o ≤ 9223372036854775807) (hT : STab w) :
    Calls Tryd.prog 5 #[.agg #[.int .i64 style, .string own, .int .i64 t, .int .i64 n, .int .i64 o]] w fun e w' => e = .returned (.bool true) ∧ Below w.heap.size w w' := by
  have HT := Lib.hid hT
  have HK := Lib.hid (InAsk.start w style own t n o)
  clear hT
  by_cases hl : 100 < own.size
  · go_enter Tryd.func5, Tryd.ntmps5
    go_wp2_with fail
    refine (awake_ask HK.out HT.out).mono ?_
    rintro e w1 ⟨rfl, hk⟩
    have HK1 := Lib.hid hk
    have c1 := hk.c1
    clear hk HK
    go_wp2_with fail
    refine (awake_ask HK1.out HT.out).mono ?_
    rintro e w2 ⟨rfl, hk⟩
    have HK2 := Lib.hid hk
    clear hk HK1 c1
    go_wp2_with fail
    go_ret
    exact ⟨rfl, HK2.out.below⟩
  · have cP := fun (wx : World) (k : InAsk w style own t n o wx) => ask_of k (style_any style own t n o wx (HT.out.keep k.below) (by omega) t0 t1 n0 n1 o0 o1)
    have cR := fun (wx : World) (k : InAsk w style own t n o wx) => ask_of k (refStyle_any style own t n o wx (by omega) t0 t1 n0 n1 o0 o1)
    have c1 := fun (wx : World) (k : InAsk w style own t n o wx) => ask_same k (recent_any t n wx t0 t1 n0 n1)
    have c2 := fun (wx : World) (k : InAsk w style own t n o wx) => ask_same k (refRecent_any t n wx t0 t1 n0 n1)
    generalize txt (styleP style own.data.toList t n o) = S at *
    have hq : (S.toList == S.toList) = true := beq_self_eq_true _
    generalize recentB t n = r at *
    have hr : (r == r) = true := beq_self_eq_true _
    have HP := Lib.hid cP
    have HR := Lib.hid cR
    have H1 := Lib.hid c1
    have H2 := Lib.hid c2
    clear cP cR c1 c2
    go_enter Tryd.func5, Tryd.ntmps5
    go_wp2_with fail
    refine (awake_ask HK.out HT.out).mono ?_
    rintro e w1 ⟨rfl, hk⟩
    have HK1 := Lib.hid hk
    have c1 := hk.c1
    clear hk HK
    go_wp2_with fail
    have hk := HK1.out
    clear HK1 c1
    go_region_held3 (fun w' => InAsk w style own t n o w' ∧ w'.cell? ⟨w.heap.size, 0, none⟩ = some (.int .i64 style) ∧ w'.cell? ⟨w.heap.size, 1, none⟩ = some (.string own) ∧ w'.cell? ⟨w.heap.size, 2, none⟩ = some (.int .i64 t) ∧ w'.cell? ⟨w.heap.size, 3, none⟩ = some (.int .i64 n) ∧ w'.cell? ⟨w.heap.size, 4, none⟩ = some (.int .i64 o)) (first | exact ⟨hk, hk.c0, hk.c1, hk.c2, hk.c3, hk.c4⟩ | exact ⟨hk.drew, hk.c0, hk.c1, hk.c2, hk.c3, hk.c4⟩)
      (first | (go_at_call 12; refine (H1.out _ (And.left (by assumption))).mono ?_; rintro e w3 ⟨rfl, hk⟩) | (go_at_call 13; refine (H2.out _ (And.left (by assumption))).mono ?_; rintro e w3 ⟨rfl, hk⟩) | (go_at_call 14; refine (HP.out _ (And.left (by assumption))).mono ?_; rintro e w3 ⟨rfl, hk⟩) | (go_at_call 15; refine (HR.out _ (And.left (by assumption))).mono ?_; rintro e w3 ⟨rfl, hk⟩))
    go_wp2_with fail
    go_ret
    exact ⟨rfl, hk.below⟩
end Go.Proofs.YtiegibgllnojcaaDoor
