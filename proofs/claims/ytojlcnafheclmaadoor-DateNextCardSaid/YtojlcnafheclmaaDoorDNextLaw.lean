/-
  The law DateNext, walked: it returns true. Conditions: the numbers are an int64 and an int; the table of months lies as the text lays it.
-/
import Derived.Test.YtojlcnafheclmaaDoorDNextM
namespace Go.Proofs.YtojlcnafheclmaaDoor
open Go.RowKit

/-- A callee that leaves the world alone, in a region that draws. -/
theorem quiet_plain {P : Program} {f : FuncId} {args : Array Value} {w : World} {n : Nat} {v : Value} (h : Calls P f args (w.drewN n) fun e w' => e = .returned v ∧ w.drewN n = w') :
    Calls P f args (w.drewN n) fun e w' => e = .returned v ∧ ∃ m, w' = w.drewN m := by
  refine h.mono ?_
  rintro e w' ⟨he, rfl⟩
  exact ⟨he, n, rfl⟩
theorem days_quiet {y m L : Int} {w w0 : World} (n : Nat) (hL : monthLen y m = L) (m1 : 1 ≤ m) (m2 : m ≤ 12) (ht : Tab w) (hb : Below w.heap.size w w0) :
    Calls Tryd.prog 15 #[.int .i64 y, .int .i64 m] (w0.drewN n) fun e w' => e = .returned (.int .i64 L) ∧ w0.drewN n = w' := by
  rw [← hL]
  exact days_any y m _ (by omega) (by omega) (ht.keep (below_draw hb n))

set_option maxHeartbeats 20000000 in
set_option maxRecDepth 100000 in
theorem next_walk (t o : Int) (w : World) (h1 : -9223372036854775808 ≤ t) (h2 : t ≤ 9223372036854775807) (ht : Tab w) :
    Calls Tryd.prog 6 #[.int .i64 t, .int .i64 o] w fun e w' => e = .returned (.bool true) ∧ Below w.heap.size w w' := by
  have HT := Lib.hid ht
  clear ht
  go_enter Tryd.func6, Tryd.ntmps6
  go_wp2_with fail
  refine (awake_any _ HT.out).mono ?_
  rintro e w1 ⟨rfl, hb⟩
  have HB := Lib.hid hb
  clear hb
  by_cases hmax : t = 9223372036854775807
  · have hq : (t == 9223372036854775807) = true := by simpa using hmax
    clear hmax
    go_wp2_with fail
    refine (awake_any _ (HT.out.keep HB.out)).mono ?_
    rintro e w2 ⟨rfl, hb⟩
    have HB2 := Lib.hid (below_two HB.out hb)
    clear hb
    go_wp2_with fail
    go_ret
    exact ⟨rfl, HB2.out⟩
  · have hq : (t == 9223372036854775807) = false := by simpa using hmax
    have h3 : t ≤ 9223372036854775806 := by omega
    clear hmax h2
    go_wp2_with fail
    refine (of_any _ _ _ (by omega) (by omega) (HT.out.keep HB.out)).mono ?_
    rintro e w2 ⟨rfl, hb⟩
    have HB2 := Lib.hid (below_two HB.out hb)
    clear hb hq
    have ob := offB_bd o
    obtain ⟨y, m, d, h, i, s, wd, yd, e1, hN, by_, bm, bd, bh, bi, bs, bw, byd⟩ := next_date (t + offB o) (by omega) (by omega)
    rw [e1, agg_of]
    have HN := Lib.hid hN
    clear ob e1 hN
    go_wp2_with fail
    refine (of_any _ _ _ (by omega) (by omega) (HT.out.keep HB2.out)).mono ?_
    rintro e w3 ⟨rfl, hb⟩
    have HB3 := Lib.hid (below_two HB2.out hb)
    clear hb
    have hN := HN.out
    rw [show t + 1 + offB o = t + offB o + 1 by omega]
    generalize dateV (t + offB o + 1) = V at *
    clear HN
    cases hN with
    | second a =>
      rw [agg_of]
      go_wp2_with fail
      go_ret
      refine ⟨rfl, ?_⟩
      repeat (first | (with_reducible apply Below.setCell (hp := ?_)) | (with_reducible apply Below.alloc (hB := ?_)) | (with_reducible apply below_draw))
      all_goals (first | (with_reducible exact HB3.out) | (have hz := HB3.out.size; simp; omega) | (have hz := HB3.out.size; omega))
    | minute a b =>
      subst a
      rw [agg_of]
      go_wp2_with fail
      go_ret
      refine ⟨rfl, ?_⟩
      repeat (first | (with_reducible apply Below.setCell (hp := ?_)) | (with_reducible apply Below.alloc (hB := ?_)) | (with_reducible apply below_draw))
      all_goals (first | (with_reducible exact HB3.out) | (have hz := HB3.out.size; simp; omega) | (have hz := HB3.out.size; omega))
    | hour a b c =>
      subst a b
      rw [agg_of]
      go_wp2_with fail
      go_ret
      refine ⟨rfl, ?_⟩
      repeat (first | (with_reducible apply Below.setCell (hp := ?_)) | (with_reducible apply Below.alloc (hB := ?_)) | (with_reducible apply below_draw))
      all_goals (first | (with_reducible exact HB3.out) | (have hz := HB3.out.size; simp; omega) | (have hz := HB3.out.size; omega))
    | day a b c e =>
      subst a b c
      rw [agg_of]
      have hm : (m == 12) = false ∨ m = 12 ∧ (d == 31) = false := by
        by_cases hx : m = 12
        · right
          subst hx
          have : monthLen y 12 = 31 := by simp [monthLen]
          exact ⟨rfl, by simp; omega⟩
        · left
          simpa using hx
      obtain ⟨L, hL⟩ : ∃ L, monthLen y m = L := ⟨_, rfl⟩
      have HL := Lib.hid hL
      rw [hL] at e
      have dl : (d == L) = false := by simp; omega
      clear hL
      rcases hm with hm | ⟨rfl, hd31⟩
      all_goals
        go_wp2_with fail
        go_quiet ((go_at_call 15; exact quiet_plain (days_quiet _ HL.out bm.1 bm.2 HT.out ((HB3.out.alloc HB3.out.size _).alloc (by have hz := HB3.out.size; simp; omega) _))))
        go_wp2_with fail
        go_ret
        refine ⟨rfl, ?_⟩
        repeat (first | (with_reducible apply Below.setCell (hp := ?_)) | (with_reducible apply Below.alloc (hB := ?_)) | (with_reducible apply below_draw))
        all_goals (first | (with_reducible exact HB3.out) | (have hz := HB3.out.size; simp; omega) | (have hz := HB3.out.size; omega))
    | month a b c e f =>
      subst a b c
      rw [agg_of]
      have hm : (m == 12) = false := by simp; omega
      have HL := Lib.hid e.symm
      clear e
      go_wp2_with fail
      go_quiet ((go_at_call 15; exact quiet_plain (days_quiet _ HL.out bm.1 bm.2 HT.out ((HB3.out.alloc HB3.out.size _).alloc (by have hz := HB3.out.size; simp; omega) _))))
      go_wp2_with fail
      go_ret
      refine ⟨rfl, ?_⟩
      repeat (first | (with_reducible apply Below.setCell (hp := ?_)) | (with_reducible apply Below.alloc (hB := ?_)) | (with_reducible apply below_draw))
      all_goals (first | (with_reducible exact HB3.out) | (have hz := HB3.out.size; simp; omega) | (have hz := HB3.out.size; omega))
    | year a b c e f =>
      subst a b c f
      rw [agg_of]
      have : monthLen y 12 = 31 := by simp [monthLen]
      rw [this] at e
      subst e
      clear this
      go_wp2_with fail
      go_ret
      refine ⟨rfl, ?_⟩
      repeat (first | (with_reducible apply Below.setCell (hp := ?_)) | (with_reducible apply Below.alloc (hB := ?_)) | (with_reducible apply below_draw))
      all_goals (first | (with_reducible exact HB3.out) | (have hz := HB3.out.size; simp; omega) | (have hz := HB3.out.size; omega))
end Go.Proofs.YtojlcnafheclmaaDoor
