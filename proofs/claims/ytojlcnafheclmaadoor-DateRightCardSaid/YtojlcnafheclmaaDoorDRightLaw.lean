/-
  The law DateRight, walked: it returns true. Conditions: the month is an int; the table of months lies as the text lays it.
-/
import Derived.Test.YtojlcnafheclmaaDoorDTimeB
namespace Go.Proofs.YtojlcnafheclmaaDoor
open Go.RowKit

set_option maxHeartbeats 4000000 in
/-- Where no time is told: the year is far, or there is no such date. -/
theorem right_rest (y m d h i s wd yd o : Int) (w : World) (m1 : -9223372036854775808 ≤ m) (m2 : m ≤ 9223372036854775807) (ht : Tab w)
    (hfar : y < -290000000000 ∨ 290000000000 < y ∨ rightB y m d h i s wd yd = false)
    (hT : ∀ w0, InBox w w.heap.size y m d h i s wd yd w0 → Calls Tryd.prog 9 #[.agg #[.int .i64 y, .int .i64 m, .int .i64 d, .int .i64 h, .int .i64 i, .int .i64 s, .int .i64 wd, .int .i64 yd], .int .i64 o] w0 fun e w' => e = .returned (.tuple #[.int .i64 0, .bool false]) ∧ Below w0.heap.size w0 w') :
    Calls Tryd.prog 5 #[.agg #[.int .i64 y, .int .i64 m, .int .i64 d, .int .i64 h, .int .i64 i, .int .i64 s, .int .i64 wd, .int .i64 yd], .int .i64 o] w fun e w' => e = .returned (.bool true) ∧ Below w.heap.size w w' := by
  have HT := Lib.hid ht
  have HTM := Lib.hid hT
  have HF := Lib.hid hfar
  clear ht hT hfar
  have HK := Lib.hid (InBox.box w y m d h i s wd yd)
  go_enter Tryd.func5, Tryd.ntmps5
  go_wp2_with fail
  refine (awake_from HK.out HT.out).mono ?_
  rintro e w1 ⟨rfl, K2⟩
  clear HK
  have HK2 := Lib.hid K2
  have k0 := K2.c0
  have k1 := K2.c1
  have k2 := K2.c2
  have k3 := K2.c3
  have k4 := K2.c4
  have k5 := K2.c5
  have k6 := K2.c6
  have k7 := K2.c7
  clear K2
  go_wp2_with fail
  refine (HTM.out _ HK2.out).mono ?_
  rintro e w2 ⟨rfl, hb⟩
  have K3 := HK2.out.keep hb
  clear HK2 hb k0 k1 k2 k3 k4 k5 k6 k7
  have HK3 := Lib.hid K3
  have k0 := K3.c0
  have k1 := K3.c1
  have k2 := K3.c2
  have k3 := K3.c3
  have k4 := K3.c4
  have k5 := K3.c5
  have k6 := K3.c6
  have k7 := K3.c7
  clear K3
  by_cases hl : y < -290000000000
  · go_wp2_with fail
    go_ret
    exact ⟨rfl, HK3.out.below⟩
  · by_cases hg : 290000000000 < y
    · go_wp2_with fail
      go_ret
      exact ⟨rfl, HK3.out.below⟩
    · have HRT := Lib.hid (show rightB y m d h i s wd yd = false by rcases HF.out with h | h | h; exact absurd h hl; exact absurd h hg; exact h)
      go_wp2_with fail
      refine (right_from HK3.out HRT.out m1 m2 HT.out).mono ?_
      rintro e w3 ⟨rfl, K4⟩
      have HK4 := Lib.hid K4
      clear K4
      go_wp2_with fail
      go_ret
      exact ⟨rfl, HK4.out.below⟩

set_option maxHeartbeats 20000000 in
set_option maxRecDepth 100000 in
theorem right_told (y m d h i s wd yd o : Int) (w : World) (m1 : -9223372036854775808 ≤ m) (m2 : m ≤ 9223372036854775807) (ht : Tab w) (hR : RightP y m d h i s wd yd) (hE : dateV (timeZ y h i s yd o + offB o) = dv y m d h i s wd yd) :
    Calls Tryd.prog 5 #[.agg #[.int .i64 y, .int .i64 m, .int .i64 d, .int .i64 h, .int .i64 i, .int .i64 s, .int .i64 wd, .int .i64 yd], .int .i64 o] w fun e w' => e = .returned (.bool true) ∧ Below w.heap.size w w' := by
    have HT := Lib.hid ht
    have HTM := Lib.hid (fun w0 (k : InBox w w.heap.size y m d h i s wd yd w0) => time_eq y m d h i s wd yd o w0 m1 m2 (ht.keep k.below) hR hE)
    have HRT := Lib.hid (right_true hR)
    have HE := Lib.hid hE
    have HZ := Lib.hid (timeZ_bd y h i s yd o)
    clear ht hR hE
    generalize timeZ y h i s yd o = Z at *
    have HK := Lib.hid (InBox.box w y m d h i s wd yd)
    go_enter Tryd.func5, Tryd.ntmps5
    go_wp2_with fail
    refine (awake_from HK.out HT.out).mono ?_
    rintro e w1 ⟨rfl, K2⟩
    clear HK
    have HK2 := Lib.hid K2
    have k0 := K2.c0
    have k1 := K2.c1
    have k2 := K2.c2
    have k3 := K2.c3
    have k4 := K2.c4
    have k5 := K2.c5
    have k6 := K2.c6
    have k7 := K2.c7
    clear K2
    go_wp2_with fail
    refine (HTM.out _ HK2.out).mono ?_
    rintro e w2 ⟨rfl, hb⟩
    have HK3 := Lib.hid (HK2.out.keep hb)
    clear HK2 hb k0 k1 k2 k3 k4 k5 k6 k7
    go_wp2_with fail
    refine wp_region_held_drew (S := InBox w w.heap.size y m d h i s wd yd) (by kernel_rfl) HK3.out.drew (fun hHeld => ?_)
    refine wpAnyH_take (i := 0) (oi := { dst := some 16, op := Op.load 23 (Operand.tmp 2), type := 23, pos := "law.go:31", after := #[], guard := none }) (v := .agg #[.int .i64 y, .int .i64 m, .int .i64 d, .int .i64 h, .int .i64 i, .int .i64 s, .int .i64 wd, .int .i64 yd]) rfl (by kernel_rfl) (by kernel_rfl) (by kernel_rfl) (fun _ _ _ h => h) (Or.inl ⟨by rfl, fun w0 hS0 => ?_⟩) (by assumption) ?_
    · have c0 := hS0.c0; have c1 := hS0.c1; have c2 := hS0.c2; have c3 := hS0.c3; have c4 := hS0.c4; have c5 := hS0.c5; have c6 := hS0.c6; have c7 := hS0.c7; go_simp
    try simp only [Act.put, List.setIfInBounds_toArray, List.set_cons_zero, List.set_cons_succ]
    refine wpAnyH_ready (rs := [1]) (by kernel_rfl) (by simp) ?_
    refine AllReadyH.cons (o := { dst := some 17, op := Op.call { callee := Callee.value (Operand.func 12), args := #[Operand.tmp 16], argTypes := #[23] }, type := 4, pos := "law.go:31", after := #[{ on := 0, ground := Ground.data }], guard := none }) rfl (fun K hK => ?_) AllReadyH.nil
    go_simp
    refine (right_from (by assumption) HRT.out m1 m2 HT.out).mono ?_
    rintro e w3 ⟨rfl, hbn⟩
    go_wp2_with fail
    refine hK.out _ _ hbn (fun hHeld => ?_)
    clear hK K
    try simp only [Act.put, List.setIfInBounds_toArray, List.set_cons_zero, List.set_cons_succ]
    refine wpAnyH_take (i := 2) (oi := { dst := some 18, op := Op.move (Operand.tmp 17), type := 4, pos := "law.go:31", after := #[{ on := 1, ground := Ground.data }, { on := 1, ground := Ground.chain }], guard := none }) (v := .bool true) rfl (by kernel_rfl) (by kernel_rfl) (by kernel_rfl) (fun _ _ _ h => h) (Or.inl ⟨by rfl, fun w0 hS0 => ?_⟩) (by assumption) ?_
    · go_simp
    try simp only [Act.put, List.setIfInBounds_toArray, List.set_cons_zero, List.set_cons_succ]
    refine wpAnyH_take (i := 3) (oi := { dst := some 19, op := Op.move (Operand.tmp 5), type := 2, pos := "law.go:31", after := #[{ on := 2, ground := Ground.guard }], guard := some (2, true) }) (v := .int .i64 Z) rfl (by kernel_rfl) (by kernel_rfl) (by kernel_rfl) (fun _ _ _ h => h) (Or.inl ⟨by rfl, fun w0 hS0 => ?_⟩) (by assumption) ?_
    · go_simp
    try simp only [Act.put, List.setIfInBounds_toArray, List.set_cons_zero, List.set_cons_succ]
    refine wpAnyH_take (i := 4) (oi := { dst := some 20, op := Op.move (Operand.tmp 1), type := 3, pos := "law.go:31", after := #[{ on := 2, ground := Ground.guard }], guard := some (2, true) }) (v := .int .i64 o) rfl (by kernel_rfl) (by kernel_rfl) (by kernel_rfl) (fun _ _ _ h => h) (Or.inl ⟨by rfl, fun w0 hS0 => ?_⟩) (by assumption) ?_
    · go_simp
    try simp only [Act.put, List.setIfInBounds_toArray, List.set_cons_zero, List.set_cons_succ]
    refine wpAnyH_take (i := 6) (oi := { dst := some 22, op := Op.load 23 (Operand.tmp 2), type := 23, pos := "law.go:31", after := #[{ on := 2, ground := Ground.guard }], guard := some (2, true) }) (v := .agg #[.int .i64 y, .int .i64 m, .int .i64 d, .int .i64 h, .int .i64 i, .int .i64 s, .int .i64 wd, .int .i64 yd]) rfl (by kernel_rfl) (by kernel_rfl) (by kernel_rfl) (fun _ _ _ h => h) (Or.inl ⟨by rfl, fun w0 hS0 => ?_⟩) (by assumption) ?_
    · have c0 := hS0.c0; have c1 := hS0.c1; have c2 := hS0.c2; have c3 := hS0.c3; have c4 := hS0.c4; have c5 := hS0.c5; have c6 := hS0.c6; have c7 := hS0.c7; go_simp
    try simp only [Act.put, List.setIfInBounds_toArray, List.set_cons_zero, List.set_cons_succ]
    refine wpAnyH_ready (rs := [5]) (by kernel_rfl) (by simp) ?_
    refine AllReadyH.cons (o := { dst := some 21, op := Op.call { callee := Callee.value (Operand.func 11), args := #[Operand.tmp 19, Operand.tmp 20], argTypes := #[2, 3] }, type := 23, pos := "law.go:31", after := #[{ on := 3, ground := Ground.data }, { on := 4, ground := Ground.data }, { on := 2, ground := Ground.chain }, { on := 2, ground := Ground.guard }], guard := some (2, true) }) rfl (fun K hK => ?_) AllReadyH.nil
    go_simp
    refine (refOf_from (by assumption) HE.out HZ.out.1 HZ.out.2).mono ?_
    rintro e w3 ⟨rfl, hbn⟩
    go_wp2_with fail
    refine hK.out _ _ hbn (fun hHeld => ?_)
    clear hK K
    try simp only [Act.put, List.setIfInBounds_toArray, List.set_cons_zero, List.set_cons_succ]
    refine wpAnyH_take (i := 7) (oi := { dst := some 23, op := Op.binOp BinOp.eql 23 (Operand.tmp 21) (Operand.tmp 22) 23, type := 4, pos := "law.go:31", after := #[{ on := 5, ground := Ground.data }, { on := 6, ground := Ground.data }, { on := 2, ground := Ground.guard }], guard := some (2, true) }) (v := .bool true) rfl (by kernel_rfl) (by kernel_rfl) (by kernel_rfl) (fun _ _ _ h => h) (Or.inl ⟨by rfl, fun w0 hS0 => ?_⟩) (by assumption) ?_
    · go_simp
    try simp only [Act.put, List.setIfInBounds_toArray, List.set_cons_zero, List.set_cons_succ]
    refine wpAnyH_take (i := 8) (oi := { dst := some 24, op := Op.pick (Operand.tmp 18) (Operand.tmp 23) (Operand.const (Value.bool false)), type := 4, pos := "law.go:31", after := #[{ on := 2, ground := Ground.data }, { on := 7, ground := Ground.data }], guard := none }) (v := .bool true) rfl (by kernel_rfl) (by kernel_rfl) (by kernel_rfl) (fun _ _ _ h => h) (Or.inl ⟨by rfl, fun w0 hS0 => ?_⟩) (by assumption) ?_
    · go_simp
    try simp only [Act.put, List.setIfInBounds_toArray, List.set_cons_zero, List.set_cons_succ]
    refine wpAnyH_take (i := 9) (oi := { dst := some 4, op := Op.assign (Operand.tmp 24), type := 4, pos := "law.go:31", after := #[{ on := 8, ground := Ground.data }, { on := 5, ground := Ground.chain }, { on := 0, ground := Ground.phase }, { on := 1, ground := Ground.phase }, { on := 2, ground := Ground.phase }, { on := 3, ground := Ground.phase }, { on := 4, ground := Ground.phase }, { on := 5, ground := Ground.phase }, { on := 6, ground := Ground.phase }, { on := 7, ground := Ground.phase }, { on := 8, ground := Ground.phase }], guard := none }) (v := .bool true) rfl (by kernel_rfl) (by kernel_rfl) (by kernel_rfl) (fun _ _ _ h => h) (Or.inl ⟨by rfl, fun w0 hS0 => ?_⟩) (by assumption) ?_
    · go_simp
    try simp only [Act.put, List.setIfInBounds_toArray, List.set_cons_zero, List.set_cons_succ]
    refine wpAnyH_done (by kernel_rfl) ?_ _
    go_wp2_with fail
    go_ret
    exact ⟨rfl, hHeld.below⟩

theorem right_walk (y m d h i s wd yd o : Int) (w : World) (m1 : -9223372036854775808 ≤ m) (m2 : m ≤ 9223372036854775807) (ht : Tab w) :
    Calls Tryd.prog 5 #[.agg #[.int .i64 y, .int .i64 m, .int .i64 d, .int .i64 h, .int .i64 i, .int .i64 s, .int .i64 wd, .int .i64 yd], .int .i64 o] w fun e w' => e = .returned (.bool true) ∧ Below w.heap.size w w' := by
  by_cases hR : RightP y m d h i s wd yd
  · obtain ⟨y', m', d', h', i', s', wd', yd', hE⟩ : ∃ y' m' d' h' i' s' wd' yd', dateV (timeZ y h i s yd o + offB o) = dv y' m' d' h' i' s' wd' yd' := ⟨_, _, _, _, _, _, _, _, rfl⟩
    by_cases hq : (y', m', d', h', i', s', wd', yd') = (y, m, d, h, i, s, wd, yd)
    · simp only [Prod.mk.injEq] at hq
      obtain ⟨rfl, rfl, rfl, rfl, rfl, rfl, rfl, rfl⟩ := hq
      exact right_told _ _ _ _ _ _ _ _ o w m1 m2 ht hR hE
    · refine right_rest y m d h i s wd yd o w m1 m2 ht ?_ fun w0 k => time_ne y m d h i s wd yd o y' m' d' h' i' s' wd' yd' w0 m1 m2 (ht.keep k.below) hR hE hq
      apply Classical.byContradiction
      intro hn
      simp only [not_or] at hn
      refine hq ?_
      have e := (near_time (o := o) hR (by omega) (by omega)).symm.trans hE
      unfold dv at e
      simp only [Value.agg.injEq, Array.mk.injEq, List.cons.injEq, Value.int.injEq, true_and, and_true] at e
      obtain ⟨e1, e2, e3, e4, e5, e6, e7, e8⟩ := e
      rw [e1, e2, e3, e4, e5, e6, e7, e8]
  · exact right_rest y m d h i s wd yd o w m1 m2 ht (.inr (.inr (right_false hR))) fun w0 k => time_no y m d h i s wd yd o w0 m1 m2 (ht.keep k.below) (right_false hR)
end Go.Proofs.YtojlcnafheclmaaDoor
