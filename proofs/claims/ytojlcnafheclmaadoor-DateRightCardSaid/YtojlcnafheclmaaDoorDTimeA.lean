/-
  What date.Time returns of what is no date: 0, false. Conditions: the month is an int; the table of months lies as the text lays it.
-/
import Derived.Test.YtojlcnafheclmaaDoorDRight
namespace Go.Proofs.YtojlcnafheclmaaDoor
open Go.RowKit

set_option maxHeartbeats 1000000 in
theorem time_no (y m d h i s wd yd o : Int) (w : World) (b1 : -9223372036854775808 ≤ m) (b2 : m ≤ 9223372036854775807) (ht : Tab w) (hR : rightB y m d h i s wd yd = false) :
    Calls Tryd.prog 9 #[.agg #[.int .i64 y, .int .i64 m, .int .i64 d, .int .i64 h, .int .i64 i, .int .i64 s, .int .i64 wd, .int .i64 yd], .int .i64 o] w fun e w' => e = .returned (.tuple #[.int .i64 0, .bool false]) ∧ Below w.heap.size w w' := by
  have HT := Lib.hid ht
  have HR := Lib.hid hR
  clear ht hR
  have HK := Lib.hid (InBox.box w y m d h i s wd yd)
  go_enter Tryd.func9, Tryd.ntmps9
  go_wp2_with fail
  refine (right_any _ _ _ _ _ _ _ _ _ b1 b2 (HT.out.keep HK.out.below)).mono ?_
  rintro e w1 ⟨rfl, hb⟩
  rw [HR.out]
  have HK2 := Lib.hid (HK.out.keep hb)
  clear HK hb
  go_wp2_with fail
  go_ret2
  exact ⟨rfl, HK2.out.below⟩

theorem ret_ib {a b : Int} {x : Bool} (h : a = b) : Ending.returned (.tuple #[.int .i64 a, .bool x]) = .returned (.tuple #[.int .i64 b, .bool x]) := by rw [h]
/-- The time of a date: as int64s have it. -/
def timeZ (y h i s yd o : Int) : Int := wrap64 (wrap64 (wrap64 ((toYear y + yd - 1) * 86400) + (h * 3600 + i * 60 + s)) - offB o)
theorem timeZ_def (y h i s yd o : Int) : wrap64 (wrap64 (wrap64 ((toYear y + yd - 1) * 86400) + (h * 3600 + i * 60 + s)) - offB o) = timeZ y h i s yd o := rfl
theorem timeZ_bd (y h i s yd o : Int) : -9223372036854775808 ≤ timeZ y h i s yd o ∧ timeZ y h i s yd o ≤ 9223372036854775807 := by
  unfold timeZ wrap64
  omega
theorem timeZ_in {y h i s yd o t : Int} (e : (toYear y + yd - 1) * 86400 + (h * 3600 + i * 60 + s) - offB o = t) (h1 : -9223372036854775808 ≤ t) (h2 : t ≤ 9223372036854775807) : timeZ y h i s yd o = t := by
  unfold timeZ wrap64
  omega
theorem of_from {w w0 : World} {b : Nat} {y m d h i s wd yd y' m' d' h' i' s' wd' yd' t o : Int} (hS : InBox w b y m d h i s wd yd w0) (hE : dateV (t + offB o) = dv y' m' d' h' i' s' wd' yd') (h1 : -9223372036854775808 ≤ t) (h2 : t ≤ 9223372036854775807) (ht : Tab w) :
    Calls Tryd.prog 8 #[.int .i64 t, .int .i64 o] w0 fun e w' => e = .returned (.agg #[.int .i64 y', .int .i64 m', .int .i64 d', .int .i64 h', .int .i64 i', .int .i64 s', .int .i64 wd', .int .i64 yd']) ∧ InBox w b y m d h i s wd yd w' := by
  refine (of_any t o w0 h1 h2 (ht.keep hS.below)).mono ?_
  rintro e w' ⟨rfl, hb⟩
  exact ⟨by rw [hE, agg_of], hS.keep hb⟩

set_option maxHeartbeats 4000000 in
set_option maxRecDepth 100000 in
theorem time_eq (y m d h i s wd yd o : Int) (w : World) (b1 : -9223372036854775808 ≤ m) (b2 : m ≤ 9223372036854775807) (ht : Tab w) (hR : RightP y m d h i s wd yd) (hE : dateV (timeZ y h i s yd o + offB o) = dv y m d h i s wd yd) :
    Calls Tryd.prog 9 #[.agg #[.int .i64 y, .int .i64 m, .int .i64 d, .int .i64 h, .int .i64 i, .int .i64 s, .int .i64 wd, .int .i64 yd], .int .i64 o] w fun e w' => e = .returned (.tuple #[.int .i64 (timeZ y h i s yd o), .bool true]) ∧ Below w.heap.size w w' := by
  have HT := Lib.hid ht
  have HR := Lib.hid hR
  have HE := Lib.hid hE
  clear ht hR hE
  have HK := Lib.hid (InBox.box w y m d h i s wd yd)
  go_enter Tryd.func9, Tryd.ntmps9
  go_wp2_with fail
  refine (right_any _ _ _ _ _ _ _ _ _ b1 b2 (HT.out.keep HK.out.below)).mono ?_
  rintro e w1 ⟨rfl, hb⟩
  rw [right_true HR.out]
  have K2 := HK.out.keep hb
  clear HK hb
  have HK2 := Lib.hid K2
  have k0 := K2.c0
  have k1 := K2.c1
  have k2 := K2.c2
  have k3 := K2.c3
  have k4 := K2.c4
  have k5 := K2.c5
  have k6 := K2.c6
  have k7 := K2.c7
  clear K2
  have r1 := belowB_iff.1 HR.out.hour
  have r2 := belowB_iff.1 HR.out.minute
  have r3 := belowB_iff.1 HR.out.second
  have r4 := HR.out.y1
  have r5 := HR.out.y2
  have ydb : 0 ≤ yd ∧ yd ≤ 1000 := by rw [HR.out.yday]; exact sum_of rfl rfl HR.out.d1 HR.out.d2
  go_wp2_with fail
  refine (dayOf_any _ _ _ _ _ _ _ _ _ r4 r5 ydb.1 ydb.2).mono ?_
  rintro e w2 ⟨rfl, hb⟩
  have K3 := HK2.out.keep hb
  clear HK2 hb k0 k1 k2 k3 k4 k5 k6 k7
  have HK3 := Lib.hid K3
  clear K3
  go_wp2_with fail
  refine (bounded_any _ _).mono ?_
  rintro e w2 ⟨rfl, rfl⟩
  go_wp2_with fail
  rw [timeZ_def]
  have HZ := Lib.hid (timeZ_bd y h i s yd o)
  generalize hZZ : timeZ y h i s yd o = Z at *
  have HZZ := Lib.hid hZZ
  clear hZZ
  refine wp_region_held_drew (S := InBox w w.heap.size y m d h i s wd yd) (by kernel_rfl) HK3.out.drew (fun hHeld => ?_)
  refine wpAnyH_take (i := 0) (oi := { dst := some 29, op := Op.move (Operand.tmp 7), type := 2, pos := "date.go:60", after := #[], guard := none }) (v := .int .i64 Z) rfl (by kernel_rfl) (by kernel_rfl) (by kernel_rfl) (fun _ _ _ h => h) (Or.inl ⟨by rfl, fun w0 hS0 => ?_⟩) (by assumption) ?_
  · go_simp
  try simp only [Act.put, List.setIfInBounds_toArray, List.set_cons_zero, List.set_cons_succ]
  refine wpAnyH_take (i := 1) (oi := { dst := some 30, op := Op.move (Operand.tmp 1), type := 3, pos := "date.go:60", after := #[], guard := none }) (v := .int .i64 o) rfl (by kernel_rfl) (by kernel_rfl) (by kernel_rfl) (fun _ _ _ h => h) (Or.inl ⟨by rfl, fun w0 hS0 => ?_⟩) (by assumption) ?_
  · go_simp
  try simp only [Act.put, List.setIfInBounds_toArray, List.set_cons_zero, List.set_cons_succ]
  refine wpAnyH_take (i := 3) (oi := { dst := some 32, op := Op.load 23 (Operand.tmp 2), type := 23, pos := "date.go:60", after := #[], guard := none }) (v := .agg #[.int .i64 y, .int .i64 m, .int .i64 d, .int .i64 h, .int .i64 i, .int .i64 s, .int .i64 wd, .int .i64 yd]) rfl (by kernel_rfl) (by kernel_rfl) (by kernel_rfl) (fun _ _ _ h => h) (Or.inl ⟨by rfl, fun w0 hS0 => ?_⟩) (by assumption) ?_
  · have c0 := hS0.c0; have c1 := hS0.c1; have c2 := hS0.c2; have c3 := hS0.c3; have c4 := hS0.c4; have c5 := hS0.c5; have c6 := hS0.c6; have c7 := hS0.c7; go_simp
  try simp only [Act.put, List.setIfInBounds_toArray, List.set_cons_zero, List.set_cons_succ]
  refine wpAnyH_ready (rs := [2]) (by kernel_rfl) (by simp) ?_
  refine AllReadyH.cons (o := { dst := some 31, op := Op.call { callee := Callee.value (Operand.func 8), args := #[Operand.tmp 29, Operand.tmp 30], argTypes := #[2, 3] }, type := 23, pos := "date.go:60", after := #[{ on := 0, ground := Ground.data }, { on := 1, ground := Ground.data }], guard := none }) rfl (fun K hK => ?_) AllReadyH.nil
  go_simp
  refine (of_from (by assumption) HE.out HZ.out.1 HZ.out.2 HT.out).mono ?_
  rintro e w3 ⟨rfl, hbn⟩
  go_wp2_with fail
  refine hK.out _ _ hbn (fun hHeld => ?_)
  clear hK K
  try simp only [Act.put, List.setIfInBounds_toArray, List.set_cons_zero, List.set_cons_succ]
  refine wpAnyH_take (i := 4) (oi := { dst := some 33, op := Op.binOp BinOp.neq 23 (Operand.tmp 31) (Operand.tmp 32) 23, type := 4, pos := "date.go:60", after := #[{ on := 2, ground := Ground.data }, { on := 3, ground := Ground.data }], guard := none }) (v := .bool false) rfl (by kernel_rfl) (by kernel_rfl) (by kernel_rfl) (fun _ _ _ h => h) (Or.inl ⟨by rfl, fun w0 hS0 => ?_⟩) (by assumption) ?_
  · go_simp
  try simp only [Act.put, List.setIfInBounds_toArray, List.set_cons_zero, List.set_cons_succ]
  refine wpAnyH_done (by kernel_rfl) ?_ _
  go_wp2_with fail
  go_ret2
  exact ⟨ret_ib HZZ.out.symm, hHeld.below⟩

set_option maxHeartbeats 4000000 in
set_option maxRecDepth 100000 in
theorem time_ne (y m d h i s wd yd o : Int) (y' m' d' h' i' s' wd' yd' : Int) (w : World) (b1 : -9223372036854775808 ≤ m) (b2 : m ≤ 9223372036854775807) (ht : Tab w) (hR : RightP y m d h i s wd yd) (hE : dateV (timeZ y h i s yd o + offB o) = dv y' m' d' h' i' s' wd' yd') (hne : (y', m', d', h', i', s', wd', yd') ≠ (y, m, d, h, i, s, wd, yd)) :
    Calls Tryd.prog 9 #[.agg #[.int .i64 y, .int .i64 m, .int .i64 d, .int .i64 h, .int .i64 i, .int .i64 s, .int .i64 wd, .int .i64 yd], .int .i64 o] w fun e w' => e = .returned (.tuple #[.int .i64 0, .bool false]) ∧ Below w.heap.size w w' := by
  have HT := Lib.hid ht
  have HR := Lib.hid hR
  have HE := Lib.hid hE
  clear ht hR hE
  have HNE := Lib.hid hne
  clear hne
  have HK := Lib.hid (InBox.box w y m d h i s wd yd)
  go_enter Tryd.func9, Tryd.ntmps9
  go_wp2_with fail
  refine (right_any _ _ _ _ _ _ _ _ _ b1 b2 (HT.out.keep HK.out.below)).mono ?_
  rintro e w1 ⟨rfl, hb⟩
  rw [right_true HR.out]
  have K2 := HK.out.keep hb
  clear HK hb
  have HK2 := Lib.hid K2
  have k0 := K2.c0
  have k1 := K2.c1
  have k2 := K2.c2
  have k3 := K2.c3
  have k4 := K2.c4
  have k5 := K2.c5
  have k6 := K2.c6
  have k7 := K2.c7
  clear K2
  have r1 := belowB_iff.1 HR.out.hour
  have r2 := belowB_iff.1 HR.out.minute
  have r3 := belowB_iff.1 HR.out.second
  have r4 := HR.out.y1
  have r5 := HR.out.y2
  have ydb : 0 ≤ yd ∧ yd ≤ 1000 := by rw [HR.out.yday]; exact sum_of rfl rfl HR.out.d1 HR.out.d2
  go_wp2_with fail
  refine (dayOf_any _ _ _ _ _ _ _ _ _ r4 r5 ydb.1 ydb.2).mono ?_
  rintro e w2 ⟨rfl, hb⟩
  have K3 := HK2.out.keep hb
  clear HK2 hb k0 k1 k2 k3 k4 k5 k6 k7
  have HK3 := Lib.hid K3
  clear K3
  go_wp2_with fail
  refine (bounded_any _ _).mono ?_
  rintro e w2 ⟨rfl, rfl⟩
  go_wp2_with fail
  rw [timeZ_def]
  have HZ := Lib.hid (timeZ_bd y h i s yd o)
  generalize hZZ : timeZ y h i s yd o = Z at *
  have HZZ := Lib.hid hZZ
  clear hZZ
  refine wp_region_held_drew (S := InBox w w.heap.size y m d h i s wd yd) (by kernel_rfl) HK3.out.drew (fun hHeld => ?_)
  refine wpAnyH_take (i := 0) (oi := { dst := some 29, op := Op.move (Operand.tmp 7), type := 2, pos := "date.go:60", after := #[], guard := none }) (v := .int .i64 Z) rfl (by kernel_rfl) (by kernel_rfl) (by kernel_rfl) (fun _ _ _ h => h) (Or.inl ⟨by rfl, fun w0 hS0 => ?_⟩) (by assumption) ?_
  · go_simp
  try simp only [Act.put, List.setIfInBounds_toArray, List.set_cons_zero, List.set_cons_succ]
  refine wpAnyH_take (i := 1) (oi := { dst := some 30, op := Op.move (Operand.tmp 1), type := 3, pos := "date.go:60", after := #[], guard := none }) (v := .int .i64 o) rfl (by kernel_rfl) (by kernel_rfl) (by kernel_rfl) (fun _ _ _ h => h) (Or.inl ⟨by rfl, fun w0 hS0 => ?_⟩) (by assumption) ?_
  · go_simp
  try simp only [Act.put, List.setIfInBounds_toArray, List.set_cons_zero, List.set_cons_succ]
  refine wpAnyH_take (i := 3) (oi := { dst := some 32, op := Op.load 23 (Operand.tmp 2), type := 23, pos := "date.go:60", after := #[], guard := none }) (v := .agg #[.int .i64 y, .int .i64 m, .int .i64 d, .int .i64 h, .int .i64 i, .int .i64 s, .int .i64 wd, .int .i64 yd]) rfl (by kernel_rfl) (by kernel_rfl) (by kernel_rfl) (fun _ _ _ h => h) (Or.inl ⟨by rfl, fun w0 hS0 => ?_⟩) (by assumption) ?_
  · have c0 := hS0.c0; have c1 := hS0.c1; have c2 := hS0.c2; have c3 := hS0.c3; have c4 := hS0.c4; have c5 := hS0.c5; have c6 := hS0.c6; have c7 := hS0.c7; go_simp
  try simp only [Act.put, List.setIfInBounds_toArray, List.set_cons_zero, List.set_cons_succ]
  refine wpAnyH_ready (rs := [2]) (by kernel_rfl) (by simp) ?_
  refine AllReadyH.cons (o := { dst := some 31, op := Op.call { callee := Callee.value (Operand.func 8), args := #[Operand.tmp 29, Operand.tmp 30], argTypes := #[2, 3] }, type := 23, pos := "date.go:60", after := #[{ on := 0, ground := Ground.data }, { on := 1, ground := Ground.data }], guard := none }) rfl (fun K hK => ?_) AllReadyH.nil
  go_simp
  refine (of_from (by assumption) HE.out HZ.out.1 HZ.out.2 HT.out).mono ?_
  rintro e w3 ⟨rfl, hbn⟩
  go_wp2_with fail
  refine hK.out _ _ hbn (fun hHeld => ?_)
  clear hK K
  try simp only [Act.put, List.setIfInBounds_toArray, List.set_cons_zero, List.set_cons_succ]
  refine wpAnyH_take (i := 4) (oi := { dst := some 33, op := Op.binOp BinOp.neq 23 (Operand.tmp 31) (Operand.tmp 32) 23, type := 4, pos := "date.go:60", after := #[{ on := 2, ground := Ground.data }, { on := 3, ground := Ground.data }], guard := none }) (v := .bool true) rfl (by kernel_rfl) (by kernel_rfl) (by kernel_rfl) (fun _ _ _ h => h) (Or.inl ⟨by rfl, fun w0 hS0 => ?_⟩) (by assumption) ?_
  · go_simp
    intro e1 e2 e3 e4 e5 e6 e7 e8
    exact HNE.out (by rw [e1, e2, e3, e4, e5, e6, e7, e8])
  try simp only [Act.put, List.setIfInBounds_toArray, List.set_cons_zero, List.set_cons_succ]
  refine wpAnyH_done (by kernel_rfl) ?_ _
  go_wp2_with fail
  go_ret2
  exact ⟨rfl, hHeld.below⟩

end Go.Proofs.YtojlcnafheclmaaDoor
