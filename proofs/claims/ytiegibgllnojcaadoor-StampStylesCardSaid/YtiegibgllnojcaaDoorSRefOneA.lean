/-
  What the reference's One writes of each directive but F, T, j, e and z. Conditions: the date's numbers are within their bounds.
-/
import Derived.Test.YtiegibgllnojcaaDoorSRefOne
set_option linter.unusedVariables false
namespace Go.Proofs.YtiegibgllnojcaaDoor
open Go.RowKit

set_option maxHeartbeats 4000000 in
set_option maxRecDepth 100000 in
theorem one_Y (t o y m d h i s wd yd : Int) (B : TellBd t o y m d h i s wd yd) (hv : dateV (t + offB o) = dv y m d h i s wd yd) (w : World) :
    Calls Tryd.prog 24 #[.int .u8 89, .int .i64 t, .int .i64 o] w fun e w' => e = .returned (.tuple #[.string (txt (Lib.itoa y)), .bool true]) ∧ Below w.heap.size w w' := by
  have BB := Lib.hid B
  have cO := refOf_any t o w B.t0 B.t1
  rw [hv, agg_of] at cO
  clear B hv
  go_enter Tryd.func24, Tryd.ntmps24
  go_wp2_with fail
  refine cO.mono ?_
  rintro e w1 ⟨rfl, hb⟩
  have HK := Lib.hid (InOne.start hb y m d h i s wd yd)
  clear hb cO
  go_wp2_with fail
  refine (rdec_from HK.out y BB.out.y0 BB.out.y1).mono ?_
  rintro e w2 ⟨rfl, hk⟩
  have HK2 := Lib.hid hk
  clear hk HK
  go_wp2_with fail
  go_ret2
  exact ⟨rfl, HK2.out.below⟩

set_option maxHeartbeats 4000000 in
set_option maxRecDepth 100000 in
theorem one_s (t o y m d h i s wd yd : Int) (B : TellBd t o y m d h i s wd yd) (hv : dateV (t + offB o) = dv y m d h i s wd yd) (w : World) :
    Calls Tryd.prog 24 #[.int .u8 115, .int .i64 t, .int .i64 o] w fun e w' => e = .returned (.tuple #[.string (txt (Lib.itoa t)), .bool true]) ∧ Below w.heap.size w w' := by
  have BB := Lib.hid B
  have cO := refOf_any t o w B.t0 B.t1
  rw [hv, agg_of] at cO
  clear B hv
  go_enter Tryd.func24, Tryd.ntmps24
  go_wp2_with fail
  refine cO.mono ?_
  rintro e w1 ⟨rfl, hb⟩
  have HK := Lib.hid (InOne.start hb y m d h i s wd yd)
  clear hb cO
  go_wp2_with fail
  refine (rdec_from HK.out t BB.out.t0 BB.out.t1).mono ?_
  rintro e w2 ⟨rfl, hk⟩
  have HK2 := Lib.hid hk
  clear hk HK
  go_wp2_with fail
  go_ret2
  exact ⟨rfl, HK2.out.below⟩

set_option maxHeartbeats 4000000 in
set_option maxRecDepth 100000 in
theorem one_m (t o y m d h i s wd yd : Int) (B : TellBd t o y m d h i s wd yd) (hv : dateV (t + offB o) = dv y m d h i s wd yd) (w : World) :
    Calls Tryd.prog 24 #[.int .u8 109, .int .i64 t, .int .i64 o] w fun e w' => e = .returned (.tuple #[.string (txt (twoL m.toNat)), .bool true]) ∧ Below w.heap.size w w' := by
  have BB := Lib.hid B
  have cO := refOf_any t o w B.t0 B.t1
  rw [hv, agg_of] at cO
  clear B hv
  go_enter Tryd.func24, Tryd.ntmps24
  go_wp2_with fail
  refine cO.mono ?_
  rintro e w1 ⟨rfl, hb⟩
  have HK := Lib.hid (InOne.start hb y m d h i s wd yd)
  clear hb cO
  go_wp2_with fail
  refine (rtwo_from HK.out m BB.out.m0 (BB.out.mH)).mono ?_
  rintro e w2 ⟨rfl, hk⟩
  have HK2 := Lib.hid hk
  clear hk HK
  go_wp2_with fail
  go_ret2
  exact ⟨rfl, HK2.out.below⟩

set_option maxHeartbeats 4000000 in
set_option maxRecDepth 100000 in
theorem one_d (t o y m d h i s wd yd : Int) (B : TellBd t o y m d h i s wd yd) (hv : dateV (t + offB o) = dv y m d h i s wd yd) (w : World) :
    Calls Tryd.prog 24 #[.int .u8 100, .int .i64 t, .int .i64 o] w fun e w' => e = .returned (.tuple #[.string (txt (twoL d.toNat)), .bool true]) ∧ Below w.heap.size w w' := by
  have BB := Lib.hid B
  have cO := refOf_any t o w B.t0 B.t1
  rw [hv, agg_of] at cO
  clear B hv
  go_enter Tryd.func24, Tryd.ntmps24
  go_wp2_with fail
  refine cO.mono ?_
  rintro e w1 ⟨rfl, hb⟩
  have HK := Lib.hid (InOne.start hb y m d h i s wd yd)
  clear hb cO
  go_wp2_with fail
  refine (rtwo_from HK.out d BB.out.d0 (BB.out.dH)).mono ?_
  rintro e w2 ⟨rfl, hk⟩
  have HK2 := Lib.hid hk
  clear hk HK
  go_wp2_with fail
  go_ret2
  exact ⟨rfl, HK2.out.below⟩

set_option maxHeartbeats 4000000 in
set_option maxRecDepth 100000 in
theorem one_H (t o y m d h i s wd yd : Int) (B : TellBd t o y m d h i s wd yd) (hv : dateV (t + offB o) = dv y m d h i s wd yd) (w : World) :
    Calls Tryd.prog 24 #[.int .u8 72, .int .i64 t, .int .i64 o] w fun e w' => e = .returned (.tuple #[.string (txt (twoL h.toNat)), .bool true]) ∧ Below w.heap.size w w' := by
  have BB := Lib.hid B
  have cO := refOf_any t o w B.t0 B.t1
  rw [hv, agg_of] at cO
  clear B hv
  go_enter Tryd.func24, Tryd.ntmps24
  go_wp2_with fail
  refine cO.mono ?_
  rintro e w1 ⟨rfl, hb⟩
  have HK := Lib.hid (InOne.start hb y m d h i s wd yd)
  clear hb cO
  go_wp2_with fail
  refine (rtwo_from HK.out h BB.out.h0 (BB.out.hH)).mono ?_
  rintro e w2 ⟨rfl, hk⟩
  have HK2 := Lib.hid hk
  clear hk HK
  go_wp2_with fail
  go_ret2
  exact ⟨rfl, HK2.out.below⟩

set_option maxHeartbeats 4000000 in
set_option maxRecDepth 100000 in
theorem one_M (t o y m d h i s wd yd : Int) (B : TellBd t o y m d h i s wd yd) (hv : dateV (t + offB o) = dv y m d h i s wd yd) (w : World) :
    Calls Tryd.prog 24 #[.int .u8 77, .int .i64 t, .int .i64 o] w fun e w' => e = .returned (.tuple #[.string (txt (twoL i.toNat)), .bool true]) ∧ Below w.heap.size w w' := by
  have BB := Lib.hid B
  have cO := refOf_any t o w B.t0 B.t1
  rw [hv, agg_of] at cO
  clear B hv
  go_enter Tryd.func24, Tryd.ntmps24
  go_wp2_with fail
  refine cO.mono ?_
  rintro e w1 ⟨rfl, hb⟩
  have HK := Lib.hid (InOne.start hb y m d h i s wd yd)
  clear hb cO
  go_wp2_with fail
  refine (rtwo_from HK.out i BB.out.i0 (BB.out.iH)).mono ?_
  rintro e w2 ⟨rfl, hk⟩
  have HK2 := Lib.hid hk
  clear hk HK
  go_wp2_with fail
  go_ret2
  exact ⟨rfl, HK2.out.below⟩

set_option maxHeartbeats 4000000 in
set_option maxRecDepth 100000 in
theorem one_S (t o y m d h i s wd yd : Int) (B : TellBd t o y m d h i s wd yd) (hv : dateV (t + offB o) = dv y m d h i s wd yd) (w : World) :
    Calls Tryd.prog 24 #[.int .u8 83, .int .i64 t, .int .i64 o] w fun e w' => e = .returned (.tuple #[.string (txt (twoL s.toNat)), .bool true]) ∧ Below w.heap.size w w' := by
  have BB := Lib.hid B
  have cO := refOf_any t o w B.t0 B.t1
  rw [hv, agg_of] at cO
  clear B hv
  go_enter Tryd.func24, Tryd.ntmps24
  go_wp2_with fail
  refine cO.mono ?_
  rintro e w1 ⟨rfl, hb⟩
  have HK := Lib.hid (InOne.start hb y m d h i s wd yd)
  clear hb cO
  go_wp2_with fail
  refine (rtwo_from HK.out s BB.out.s0 (BB.out.sH)).mono ?_
  rintro e w2 ⟨rfl, hk⟩
  have HK2 := Lib.hid hk
  clear hk HK
  go_wp2_with fail
  go_ret2
  exact ⟨rfl, HK2.out.below⟩

set_option maxHeartbeats 4000000 in
set_option maxRecDepth 100000 in
theorem one_b (t o y m d h i s wd yd : Int) (B : TellBd t o y m d h i s wd yd) (hv : dateV (t + offB o) = dv y m d h i s wd yd) (w : World) :
    Calls Tryd.prog 24 #[.int .u8 98, .int .i64 t, .int .i64 o] w fun e w' => e = .returned (.tuple #[.string (txt (monName (m.toNat - 1))), .bool true]) ∧ Below w.heap.size w w' := by
  have BB := Lib.hid B
  have cO := refOf_any t o w B.t0 B.t1
  rw [hv, agg_of] at cO
  clear B hv
  have hidx := mon_at m BB.out.m1 BB.out.m12
  go_enter Tryd.func24, Tryd.ntmps24
  go_wp2_with fail
  refine cO.mono ?_
  rintro e w1 ⟨rfl, hb⟩
  have HK := Lib.hid (InOne.start hb y m d h i s wd yd)
  clear hb cO
  go_wp2_with fail
  go_ret2
  exact ⟨rfl, HK.out.below⟩

set_option maxHeartbeats 4000000 in
set_option maxRecDepth 100000 in
theorem one_a (t o y m d h i s wd yd : Int) (B : TellBd t o y m d h i s wd yd) (hv : dateV (t + offB o) = dv y m d h i s wd yd) (w : World) :
    Calls Tryd.prog 24 #[.int .u8 97, .int .i64 t, .int .i64 o] w fun e w' => e = .returned (.tuple #[.string (txt (dayName wd.toNat)), .bool true]) ∧ Below w.heap.size w w' := by
  have BB := Lib.hid B
  have cO := refOf_any t o w B.t0 B.t1
  rw [hv, agg_of] at cO
  clear B hv
  have hidx := day_at wd BB.out.wd0 BB.out.wd1
  go_enter Tryd.func24, Tryd.ntmps24
  go_wp2_with fail
  refine cO.mono ?_
  rintro e w1 ⟨rfl, hb⟩
  have HK := Lib.hid (InOne.start hb y m d h i s wd yd)
  clear hb cO
  go_wp2_with fail
  go_ret2
  exact ⟨rfl, HK.out.below⟩

set_option maxHeartbeats 4000000 in
set_option maxRecDepth 100000 in
theorem one_pct (t o y m d h i s wd yd : Int) (B : TellBd t o y m d h i s wd yd) (hv : dateV (t + offB o) = dv y m d h i s wd yd) (w : World) :
    Calls Tryd.prog 24 #[.int .u8 37, .int .i64 t, .int .i64 o] w fun e w' => e = .returned (.tuple #[.string ⟨#[37]⟩, .bool true]) ∧ Below w.heap.size w w' := by
  have BB := Lib.hid B
  have cO := refOf_any t o w B.t0 B.t1
  rw [hv, agg_of] at cO
  clear B hv
  go_enter Tryd.func24, Tryd.ntmps24
  go_wp2_with fail
  refine cO.mono ?_
  rintro e w1 ⟨rfl, hb⟩
  have HK := Lib.hid (InOne.start hb y m d h i s wd yd)
  clear hb cO
  go_wp2_with fail
  go_ret2
  exact ⟨rfl, HK.out.below⟩

set_option maxHeartbeats 4000000 in
set_option maxRecDepth 100000 in
theorem one_none (t o y m d h i s wd yd : Int) (B : TellBd t o y m d h i s wd yd) (hv : dateV (t + offB o) = dv y m d h i s wd yd) (w : World) (c : Nat) (n89 : ((c : Int) == 89) = false) (n109 : ((c : Int) == 109) = false) (n100 : ((c : Int) == 100) = false) (n72 : ((c : Int) == 72) = false) (n77 : ((c : Int) == 77) = false) (n83 : ((c : Int) == 83) = false) (n101 : ((c : Int) == 101) = false) (n106 : ((c : Int) == 106) = false) (n98 : ((c : Int) == 98) = false) (n97 : ((c : Int) == 97) = false) (n115 : ((c : Int) == 115) = false) (n122 : ((c : Int) == 122) = false) (n70 : ((c : Int) == 70) = false) (n84 : ((c : Int) == 84) = false) (n37 : ((c : Int) == 37) = false) :
    Calls Tryd.prog 24 #[.int .u8 (c : Int), .int .i64 t, .int .i64 o] w fun e w' => e = .returned (.tuple #[.string ⟨#[]⟩, .bool false]) ∧ Below w.heap.size w w' := by
  have BB := Lib.hid B
  have cO := refOf_any t o w B.t0 B.t1
  rw [hv, agg_of] at cO
  clear B hv
  go_enter Tryd.func24, Tryd.ntmps24
  go_wp2_with fail
  refine cO.mono ?_
  rintro e w1 ⟨rfl, hb⟩
  have HK := Lib.hid (InOne.start hb y m d h i s wd yd)
  clear hb cO
  go_wp2_with fail
  go_ret2
  exact ⟨rfl, HK.out.below⟩

end Go.Proofs.YtiegibgllnojcaaDoor
