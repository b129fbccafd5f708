/-
  What stamp's told writes of each directive but F and T. Conditions: the date's numbers are within their bounds; the library's tables and the package's lie as their text lays them.
-/
import Derived.Test.YtiegibgllnojcaaDoorSTold
set_option linter.unusedVariables false
namespace Go.Proofs.YtiegibgllnojcaaDoor
open Go.RowKit

set_option maxHeartbeats 4000000 in
set_option maxRecDepth 100000 in
theorem told_Y (t o y m d h i s wd yd : Int) (B : TellBd t o y m d h i s wd yd) (dir : ByteArray) (hz : 1 < dir.size) (w : World) (hT : STab w) (hc : (dir[1]'hz).toNat = 89) :
    Calls Tryd.prog 22 #[.agg #[.int .i64 t, .int .i64 o, .int .i64 y, .int .i64 m, .int .i64 d, .int .i64 h, .int .i64 i, .int .i64 s, .int .i64 wd, .int .i64 yd], .string dir] w fun e w' => e = .returned (.string (txt (Lib.itoa y))) ∧ Below w.heap.size w w' := by
  have HT := Lib.hid hT
  have HK := Lib.hid (InTold.start w t o y m d h i s wd yd)
  have BB := Lib.hid B
  clear hT B
  go_enter Tryd.func22, Tryd.ntmps22
  go_wp2_with fail
  refine (dec_from HK.out y BB.out.y0 BB.out.y1 HT.out).mono ?_
  rintro e w2 ⟨rfl, hk⟩
  have HK2 := Lib.hid hk
  clear hk HK
  go_wp2_with fail
  go_ret
  exact ⟨rfl, HK2.out.below⟩

set_option maxHeartbeats 4000000 in
set_option maxRecDepth 100000 in
theorem told_s (t o y m d h i s wd yd : Int) (B : TellBd t o y m d h i s wd yd) (dir : ByteArray) (hz : 1 < dir.size) (w : World) (hT : STab w) (hc : (dir[1]'hz).toNat = 115) :
    Calls Tryd.prog 22 #[.agg #[.int .i64 t, .int .i64 o, .int .i64 y, .int .i64 m, .int .i64 d, .int .i64 h, .int .i64 i, .int .i64 s, .int .i64 wd, .int .i64 yd], .string dir] w fun e w' => e = .returned (.string (txt (Lib.itoa t))) ∧ Below w.heap.size w w' := by
  have HT := Lib.hid hT
  have HK := Lib.hid (InTold.start w t o y m d h i s wd yd)
  have BB := Lib.hid B
  clear hT B
  go_enter Tryd.func22, Tryd.ntmps22
  go_wp2_with fail
  refine (dec_from HK.out t BB.out.t0 BB.out.t1 HT.out).mono ?_
  rintro e w2 ⟨rfl, hk⟩
  have HK2 := Lib.hid hk
  clear hk HK
  go_wp2_with fail
  go_ret
  exact ⟨rfl, HK2.out.below⟩

set_option maxHeartbeats 4000000 in
set_option maxRecDepth 100000 in
theorem told_m (t o y m d h i s wd yd : Int) (B : TellBd t o y m d h i s wd yd) (dir : ByteArray) (hz : 1 < dir.size) (w : World) (hT : STab w) (hc : (dir[1]'hz).toNat = 109) :
    Calls Tryd.prog 22 #[.agg #[.int .i64 t, .int .i64 o, .int .i64 y, .int .i64 m, .int .i64 d, .int .i64 h, .int .i64 i, .int .i64 s, .int .i64 wd, .int .i64 yd], .string dir] w fun e w' => e = .returned (.string (txt (twoL m.toNat))) ∧ Below w.heap.size w w' := by
  have HT := Lib.hid hT
  have HK := Lib.hid (InTold.start w t o y m d h i s wd yd)
  have BB := Lib.hid B
  clear hT B
  go_enter Tryd.func22, Tryd.ntmps22
  go_wp2_with fail
  refine (two_from HK.out m BB.out.m0 (BB.out.mH) HT.out).mono ?_
  rintro e w2 ⟨rfl, hk⟩
  have HK2 := Lib.hid hk
  clear hk HK
  go_wp2_with fail
  go_ret
  exact ⟨rfl, HK2.out.below⟩

set_option maxHeartbeats 4000000 in
set_option maxRecDepth 100000 in
theorem told_d (t o y m d h i s wd yd : Int) (B : TellBd t o y m d h i s wd yd) (dir : ByteArray) (hz : 1 < dir.size) (w : World) (hT : STab w) (hc : (dir[1]'hz).toNat = 100) :
    Calls Tryd.prog 22 #[.agg #[.int .i64 t, .int .i64 o, .int .i64 y, .int .i64 m, .int .i64 d, .int .i64 h, .int .i64 i, .int .i64 s, .int .i64 wd, .int .i64 yd], .string dir] w fun e w' => e = .returned (.string (txt (twoL d.toNat))) ∧ Below w.heap.size w w' := by
  have HT := Lib.hid hT
  have HK := Lib.hid (InTold.start w t o y m d h i s wd yd)
  have BB := Lib.hid B
  clear hT B
  go_enter Tryd.func22, Tryd.ntmps22
  go_wp2_with fail
  refine (two_from HK.out d BB.out.d0 (BB.out.dH) HT.out).mono ?_
  rintro e w2 ⟨rfl, hk⟩
  have HK2 := Lib.hid hk
  clear hk HK
  go_wp2_with fail
  go_ret
  exact ⟨rfl, HK2.out.below⟩

set_option maxHeartbeats 4000000 in
set_option maxRecDepth 100000 in
theorem told_H (t o y m d h i s wd yd : Int) (B : TellBd t o y m d h i s wd yd) (dir : ByteArray) (hz : 1 < dir.size) (w : World) (hT : STab w) (hc : (dir[1]'hz).toNat = 72) :
    Calls Tryd.prog 22 #[.agg #[.int .i64 t, .int .i64 o, .int .i64 y, .int .i64 m, .int .i64 d, .int .i64 h, .int .i64 i, .int .i64 s, .int .i64 wd, .int .i64 yd], .string dir] w fun e w' => e = .returned (.string (txt (twoL h.toNat))) ∧ Below w.heap.size w w' := by
  have HT := Lib.hid hT
  have HK := Lib.hid (InTold.start w t o y m d h i s wd yd)
  have BB := Lib.hid B
  clear hT B
  go_enter Tryd.func22, Tryd.ntmps22
  go_wp2_with fail
  refine (two_from HK.out h BB.out.h0 (BB.out.hH) HT.out).mono ?_
  rintro e w2 ⟨rfl, hk⟩
  have HK2 := Lib.hid hk
  clear hk HK
  go_wp2_with fail
  go_ret
  exact ⟨rfl, HK2.out.below⟩

set_option maxHeartbeats 4000000 in
set_option maxRecDepth 100000 in
theorem told_M (t o y m d h i s wd yd : Int) (B : TellBd t o y m d h i s wd yd) (dir : ByteArray) (hz : 1 < dir.size) (w : World) (hT : STab w) (hc : (dir[1]'hz).toNat = 77) :
    Calls Tryd.prog 22 #[.agg #[.int .i64 t, .int .i64 o, .int .i64 y, .int .i64 m, .int .i64 d, .int .i64 h, .int .i64 i, .int .i64 s, .int .i64 wd, .int .i64 yd], .string dir] w fun e w' => e = .returned (.string (txt (twoL i.toNat))) ∧ Below w.heap.size w w' := by
  have HT := Lib.hid hT
  have HK := Lib.hid (InTold.start w t o y m d h i s wd yd)
  have BB := Lib.hid B
  clear hT B
  go_enter Tryd.func22, Tryd.ntmps22
  go_wp2_with fail
  refine (two_from HK.out i BB.out.i0 (BB.out.iH) HT.out).mono ?_
  rintro e w2 ⟨rfl, hk⟩
  have HK2 := Lib.hid hk
  clear hk HK
  go_wp2_with fail
  go_ret
  exact ⟨rfl, HK2.out.below⟩

set_option maxHeartbeats 4000000 in
set_option maxRecDepth 100000 in
theorem told_S (t o y m d h i s wd yd : Int) (B : TellBd t o y m d h i s wd yd) (dir : ByteArray) (hz : 1 < dir.size) (w : World) (hT : STab w) (hc : (dir[1]'hz).toNat = 83) :
    Calls Tryd.prog 22 #[.agg #[.int .i64 t, .int .i64 o, .int .i64 y, .int .i64 m, .int .i64 d, .int .i64 h, .int .i64 i, .int .i64 s, .int .i64 wd, .int .i64 yd], .string dir] w fun e w' => e = .returned (.string (txt (twoL s.toNat))) ∧ Below w.heap.size w w' := by
  have HT := Lib.hid hT
  have HK := Lib.hid (InTold.start w t o y m d h i s wd yd)
  have BB := Lib.hid B
  clear hT B
  go_enter Tryd.func22, Tryd.ntmps22
  go_wp2_with fail
  refine (two_from HK.out s BB.out.s0 (BB.out.sH) HT.out).mono ?_
  rintro e w2 ⟨rfl, hk⟩
  have HK2 := Lib.hid hk
  clear hk HK
  go_wp2_with fail
  go_ret
  exact ⟨rfl, HK2.out.below⟩

set_option maxHeartbeats 4000000 in
set_option maxRecDepth 100000 in
theorem told_j (t o y m d h i s wd yd : Int) (B : TellBd t o y m d h i s wd yd) (dir : ByteArray) (hz : 1 < dir.size) (w : World) (hT : STab w) (hc : (dir[1]'hz).toNat = 106) :
    Calls Tryd.prog 22 #[.agg #[.int .i64 t, .int .i64 o, .int .i64 y, .int .i64 m, .int .i64 d, .int .i64 h, .int .i64 i, .int .i64 s, .int .i64 wd, .int .i64 yd], .string dir] w fun e w' => e = .returned (.string (txt (threeL yd.toNat))) ∧ Below w.heap.size w w' := by
  have HT := Lib.hid hT
  have HK := Lib.hid (InTold.start w t o y m d h i s wd yd)
  have BB := Lib.hid B
  clear hT B
  go_enter Tryd.func22, Tryd.ntmps22
  go_wp2_with fail
  refine (three_from HK.out yd BB.out.yd0 BB.out.yd1 HT.out).mono ?_
  rintro e w2 ⟨rfl, hk⟩
  have HK2 := Lib.hid hk
  clear hk HK
  go_wp2_with fail
  go_ret
  exact ⟨rfl, HK2.out.below⟩

set_option maxHeartbeats 4000000 in
set_option maxRecDepth 100000 in
theorem told_z (t o y m d h i s wd yd : Int) (B : TellBd t o y m d h i s wd yd) (dir : ByteArray) (hz : 1 < dir.size) (w : World) (hT : STab w) (hc : (dir[1]'hz).toNat = 122) :
    Calls Tryd.prog 22 #[.agg #[.int .i64 t, .int .i64 o, .int .i64 y, .int .i64 m, .int .i64 d, .int .i64 h, .int .i64 i, .int .i64 s, .int .i64 wd, .int .i64 yd], .string dir] w fun e w' => e = .returned (.string (txt (zoneL o))) ∧ Below w.heap.size w w' := by
  have HT := Lib.hid hT
  have HK := Lib.hid (InTold.start w t o y m d h i s wd yd)
  have BB := Lib.hid B
  clear hT B
  go_enter Tryd.func22, Tryd.ntmps22
  go_wp2_with fail
  refine (zone_from HK.out BB.out.o0 BB.out.o1 HT.out).mono ?_
  rintro e w2 ⟨rfl, hk⟩
  have HK2 := Lib.hid hk
  clear hk HK
  go_wp2_with fail
  go_ret
  exact ⟨rfl, HK2.out.below⟩

set_option maxHeartbeats 4000000 in
set_option maxRecDepth 100000 in
theorem told_e (t o y m d h i s wd yd : Int) (B : TellBd t o y m d h i s wd yd) (dir : ByteArray) (hz : 1 < dir.size) (w : World) (hT : STab w) (hc : (dir[1]'hz).toNat = 101) :
    Calls Tryd.prog 22 #[.agg #[.int .i64 t, .int .i64 o, .int .i64 y, .int .i64 m, .int .i64 d, .int .i64 h, .int .i64 i, .int .i64 s, .int .i64 wd, .int .i64 yd], .string dir] w fun e w' => e = .returned (.string (txt (dayL d))) ∧ Below w.heap.size w w' := by
  have HT := Lib.hid hT
  have HK := Lib.hid (InTold.start w t o y m d h i s wd yd)
  have BB := Lib.hid B
  clear hT B
  have HD := Lib.hid (day_of d BB.out.d0 BB.out.dH)
  obtain ⟨l1, l2⟩ := itoa_two_len d BB.out.d0 (by have := BB.out.dH; omega)
  have cD := dec_from HK.out d (by have := BB.out.d0; omega) (by have := BB.out.dH; omega) HT.out
  generalize Lib.itoa d = l at *
  have hz2 := txt_size l
  go_enter Tryd.func22, Tryd.ntmps22
  go_wp2_with fail
  refine (cD).mono ?_
  rintro e w2 ⟨rfl, hk⟩
  have HK2 := Lib.hid hk
  clear hk HK
  go_wp2_with fail
  refine (right_any (txt l) (l.length : Int) 2 w2 (by omega)).mono ?_
  rintro e w3 ⟨rfl, hb⟩
  have HK3 := Lib.hid (HK2.out.keep hb)
  clear hb HK2
  go_wp2_with fail
  go_ret
  exact ⟨ret_str (blank_day HD.out l1 l2), HK3.out.below⟩

set_option maxHeartbeats 4000000 in
set_option maxRecDepth 100000 in
theorem told_b (t o y m d h i s wd yd : Int) (B : TellBd t o y m d h i s wd yd) (dir : ByteArray) (hz : 1 < dir.size) (w : World) (hT : STab w) (hc : (dir[1]'hz).toNat = 98) :
    Calls Tryd.prog 22 #[.agg #[.int .i64 t, .int .i64 o, .int .i64 y, .int .i64 m, .int .i64 d, .int .i64 h, .int .i64 i, .int .i64 s, .int .i64 wd, .int .i64 yd], .string dir] w fun e w' => e = .returned (.string (txt (monName (m.toNat - 1)))) ∧ Below w.heap.size w w' := by
  have HT := Lib.hid hT
  have HK := Lib.hid (InTold.start w t o y m d h i s wd yd)
  have BB := Lib.hid B
  clear hT B
  have hcell := HT.out.mon (m.toNat - 1) (by have := BB.out.m12; omega)
  have m0 := BB.out.m0
  have m12 := BB.out.m12
  have m1 := BB.out.m1
  have i0 : 0 ≤ m - 1 := by omega
  have i1 : m - 1 < 12 := by omega
  have hlt := HT.out.lt
  go_enter Tryd.func22, Tryd.ntmps22
  go_wp2_with fail
  go_ret
  exact ⟨rfl, HK.out.below⟩

set_option maxHeartbeats 4000000 in
set_option maxRecDepth 100000 in
theorem told_a (t o y m d h i s wd yd : Int) (B : TellBd t o y m d h i s wd yd) (dir : ByteArray) (hz : 1 < dir.size) (w : World) (hT : STab w) (hc : (dir[1]'hz).toNat = 97) :
    Calls Tryd.prog 22 #[.agg #[.int .i64 t, .int .i64 o, .int .i64 y, .int .i64 m, .int .i64 d, .int .i64 h, .int .i64 i, .int .i64 s, .int .i64 wd, .int .i64 yd], .string dir] w fun e w' => e = .returned (.string (txt (dayName wd.toNat))) ∧ Below w.heap.size w w' := by
  have HT := Lib.hid hT
  have HK := Lib.hid (InTold.start w t o y m d h i s wd yd)
  have BB := Lib.hid B
  clear hT B
  have hcell := HT.out.day wd.toNat (by have := BB.out.wd1; omega)
  have m0 := BB.out.wd0
  have m12 := BB.out.wd1
  have hlt := HT.out.lt
  go_enter Tryd.func22, Tryd.ntmps22
  go_wp2_with fail
  go_ret
  exact ⟨rfl, HK.out.below⟩

set_option maxHeartbeats 4000000 in
set_option maxRecDepth 100000 in
theorem told_pct (t o y m d h i s wd yd : Int) (B : TellBd t o y m d h i s wd yd) (dir : ByteArray) (hz : 1 < dir.size) (w : World) (hT : STab w) (hc : (dir[1]'hz).toNat = 37) :
    Calls Tryd.prog 22 #[.agg #[.int .i64 t, .int .i64 o, .int .i64 y, .int .i64 m, .int .i64 d, .int .i64 h, .int .i64 i, .int .i64 s, .int .i64 wd, .int .i64 yd], .string dir] w fun e w' => e = .returned (.string ⟨#[37]⟩) ∧ Below w.heap.size w w' := by
  have HT := Lib.hid hT
  have HK := Lib.hid (InTold.start w t o y m d h i s wd yd)
  have BB := Lib.hid B
  clear hT B
  go_enter Tryd.func22, Tryd.ntmps22
  go_wp2_with fail
  go_ret
  exact ⟨rfl, HK.out.below⟩

set_option maxHeartbeats 4000000 in
set_option maxRecDepth 100000 in
theorem told_none (t o y m d h i s wd yd : Int) (B : TellBd t o y m d h i s wd yd) (dir : ByteArray) (hz : 1 < dir.size) (w : World) (hT : STab w) (c : Nat) (hc : (dir[1]'hz).toNat = c) (n89 : ((c : Int) == 89) = false) (n109 : ((c : Int) == 109) = false) (n100 : ((c : Int) == 100) = false) (n72 : ((c : Int) == 72) = false) (n77 : ((c : Int) == 77) = false) (n83 : ((c : Int) == 83) = false) (n101 : ((c : Int) == 101) = false) (n106 : ((c : Int) == 106) = false) (n98 : ((c : Int) == 98) = false) (n97 : ((c : Int) == 97) = false) (n115 : ((c : Int) == 115) = false) (n122 : ((c : Int) == 122) = false) (n70 : ((c : Int) == 70) = false) (n84 : ((c : Int) == 84) = false) (n37 : ((c : Int) == 37) = false) :
    Calls Tryd.prog 22 #[.agg #[.int .i64 t, .int .i64 o, .int .i64 y, .int .i64 m, .int .i64 d, .int .i64 h, .int .i64 i, .int .i64 s, .int .i64 wd, .int .i64 yd], .string dir] w fun e w' => e = .returned (.string dir) ∧ Below w.heap.size w w' := by
  have HT := Lib.hid hT
  have HK := Lib.hid (InTold.start w t o y m d h i s wd yd)
  have BB := Lib.hid B
  clear hT B
  go_enter Tryd.func22, Tryd.ntmps22
  go_wp2_with fail
  go_ret
  exact ⟨rfl, HK.out.below⟩
end Go.Proofs.YtiegibgllnojcaaDoor
