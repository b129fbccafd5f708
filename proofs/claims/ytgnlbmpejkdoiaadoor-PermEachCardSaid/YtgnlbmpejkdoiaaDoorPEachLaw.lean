/-
  What the law PermEach returns: true. Conditions: the table of classes lies as its text lays it; numbers are int64s.
-/
import Derived.Test.YtgnlbmpejkdoiaaDoorPBoxes
import Derived.Deep.RegionHeld3
set_option linter.unusedVariables false
namespace Go.Proofs.YtgnlbmpejkdoiaaDoor
open Go.RowKit

theorem or_dec : ∀ a b : Fin 8, bitB (bits BinOp.or IntKind.i64 (a.val : Int) (b.val : Int)) 0 = (bitB (a.val : Int) 0 || bitB (b.val : Int) 0) ∧ bitB (bits BinOp.or IntKind.i64 (a.val : Int) (b.val : Int)) 1 = (bitB (a.val : Int) 1 || bitB (b.val : Int) 1) ∧ bitB (bits BinOp.or IntKind.i64 (a.val : Int) (b.val : Int)) 2 = (bitB (a.val : Int) 2 || bitB (b.val : Int) 2) := by decide +kernel
theorem each_or (M x y : Int) (h0 : 0 ≤ x) (h1 : x < 8) (h2 : 0 ≤ y) (h3 : y < 8) : mayB M (bits BinOp.or IntKind.i64 x y) = (mayB M x && mayB M y) := by
  have := or_dec ⟨x.toNat, by omega⟩ ⟨y.toNat, by omega⟩
  simp only at this
  rw [Int.toNat_of_nonneg h0, Int.toNat_of_nonneg h2] at this
  obtain ⟨e0, e1, e2⟩ := this
  unfold mayB
  rw [e0, e1, e2]
  generalize bitB x 0 = x0
  generalize bitB x 1 = x1
  generalize bitB x 2 = x2
  generalize bitB y 0 = y0
  generalize bitB y 1 = y1
  generalize bitB y 2 = y2
  generalize bitB M 0 = m0
  generalize bitB M 1 = m1
  generalize bitB M 2 = m2
  revert x0 x1 x2 y0 y1 y2 m0 m1 m2
  decide
theorem each_six (n : Nv) (g : Int) : mayB (bitsP n 0 g) 6 = true := by
  unfold bitsP
  rw [if_pos rfl]
  split <;> decide
theorem each_none (M : Int) : mayB M 0 = true := by
  unfold mayB
  rw [show bitB 0 0 = false from rfl, show bitB 0 1 = false from rfl, show bitB 0 2 = false from rfl]
  rfl
set_option maxHeartbeats 2000000 in
theorem each_walk (n : Nv) (u g a b : Int) (w : World) (ht : Tab w) (h0 : -9223372036854775808 ≤ n.mode) (h1 : n.mode ≤ 9223372036854775807) (a0 : 0 ≤ a) (a1 : a < 256) (b0 : 0 ≤ b) (b1 : b < 256) :
    Calls Tryd.prog 5 #[nodeV n, credV u g, .agg #[.int .u8 a, .int .u8 b]] w fun e w' => e = .returned (.bool true) ∧ Below w.heap.size w w' := by
  have HT := Lib.hid ht
  clear ht
  obtain ⟨r, hr, r0, r1⟩ : ∃ r, Int.tmod n.mode 4096 = r ∧ -4096 < r ∧ r < 4096 := ⟨_, rfl, by have := Int.lt_tmod_of_pos n.mode (show (0 : Int) < 4096 by decide); omega, Int.tmod_lt_of_pos n.mode (by decide)⟩
  have HE := Lib.hid (show (r + 4096) % 4096 = n.mode % 4096 from by rw [← hr, Int.tmod_eq_emod]; split <;> omega)
  have hq : Int.tmod (r + 4096) 4096 = n.mode % 4096 := by rw [Int.tmod_eq_emod_of_nonneg (by omega)]; exact HE.out
  have hM0 : ∀ (u' g' t : Int) (wx : World), Boxes w w.heap.size (cutM n) u g wx → Calls Tryd.prog 7 #[.agg (cellsN (cutM n)).toArray, .agg #[.int .i64 u', .int .i64 g'], .int .i64 t] wx fun e w' => e = .returned (.bool (mayB (bitsP (cutM n) u' g') t)) ∧ Boxes w w.heap.size (cutM n) u g w' :=
    fun u' g' t wx k => box_step k (may_any (cutM n) u' g' t wx (HT.out.keep k.below))
  have hX := hM0 u g (a % 8)
  have hY := hM0 u g (b % 8)
  have hO := hM0 u g (bits BinOp.or IntKind.i64 (a % 8) (b % 8))
  have hZ := hM0 0 g 6
  have hN := hM0 u g 0
  rw [each_or _ _ _ (by omega) (by omega) (by omega) (by omega)] at hO
  rw [each_six] at hZ
  rw [each_none] at hN
  have hA := fun (wx : World) (k : Boxes w w.heap.size (cutM n) u g wx) => box_step k (awake_any wx (HT.out.keep k.below))
  generalize mayB (bitsP (cutM n) u g) (a % 8) = p at hX hO
  generalize mayB (bitsP (cutM n) u g) (b % 8) = q at hY hO
  have hCell : ∀ wx : World, Boxes w w.heap.size (cutM n) u g wx → wx.cell? ⟨w.heap.size, 0, none⟩ = some (.int .i64 n.dev) ∧ wx.cell? ⟨w.heap.size, 1, none⟩ = some (.int .i64 n.ino) ∧ wx.cell? ⟨w.heap.size, 2, none⟩ = some (.int .i64 n.kind) ∧ wx.cell? ⟨w.heap.size, 3, none⟩ = some (.int .i64 (n.mode % 4096)) ∧ wx.cell? ⟨w.heap.size, 4, none⟩ = some (.int .i64 n.uid) ∧ wx.cell? ⟨w.heap.size, 5, none⟩ = some (.int .i64 n.gid) ∧ wx.cell? ⟨w.heap.size, 6, none⟩ = some (.int .i64 n.size) ∧ wx.cell? ⟨w.heap.size, 7, none⟩ = some (.int .i64 n.blocks) ∧ wx.cell? ⟨w.heap.size, 8, none⟩ = some (.int .i64 n.links) ∧ wx.cell? ⟨w.heap.size, 9, none⟩ = some (.int .i64 n.ta) ∧ wx.cell? ⟨w.heap.size, 10, none⟩ = some (.int .i64 n.tb) ∧ wx.cell? ⟨w.heap.size, 11, none⟩ = some (.int .i64 n.tc) ∧ wx.cell? ⟨w.heap.size, 12, none⟩ = some (.string n.target) ∧ wx.cell? ⟨w.heap.size + 1, 0, none⟩ = some (.int .i64 u) ∧ wx.cell? ⟨w.heap.size + 1, 1, none⟩ = some (.int .i64 g) := fun wx k => k.cells
  have hlit : (Value.agg (cellsN (cutM n)).toArray) = .agg #[.int .i64 n.dev, .int .i64 n.ino, .int .i64 n.kind, .int .i64 (n.mode % 4096), .int .i64 n.uid, .int .i64 n.gid, .int .i64 n.size, .int .i64 n.blocks, .int .i64 n.links, .int .i64 n.ta, .int .i64 n.tb, .int .i64 n.tc, .string n.target] := rfl
  rw [hlit] at hX hY hZ hN
  have HCell := Lib.hid hCell
  clear hCell hlit
  have HX := Lib.hid hX
  have HY := Lib.hid hY
  have HO := Lib.hid hO
  have HZ := Lib.hid hZ
  have HN := Lib.hid hN
  have HA := Lib.hid hA
  clear hM0 hX hY hO hZ hN hA
  unfold nodeV credV
  go_enter Tryd.func5, Tryd.ntmps5
  go_wp2_with fail
  obtain ⟨w1, hw1⟩ : ∃ w1, ((w.alloc (.cells #[.int .i64 n.dev, .int .i64 n.ino, .int .i64 n.kind, .int .i64 n.mode, .int .i64 n.uid, .int .i64 n.gid, .int .i64 n.size, .int .i64 n.blocks, .int .i64 n.links, .int .i64 n.ta, .int .i64 n.tb, .int .i64 n.tc, .string n.target] 24)).alloc (.cells #[.int .i64 u, .int .i64 g] 26)).alloc (.cells #[.int .u8 a, .int .u8 b] 31) = w1 := ⟨_, rfl⟩
  rw [hw1]
  have hfr : w1.frozen? ⟨w.heap.size, 3, none⟩ = false := by subst hw1; go_simp
  have e0 : w1.cell? ⟨w.heap.size + 1 + 1, 0, none⟩ = some (.int .u8 a) := by subst hw1; go_simp
  have e1 : w1.cell? ⟨w.heap.size + 1 + 1, 1, none⟩ = some (.int .u8 b) := by subst hw1; go_simp
  have c0 : w1.cell? ⟨w.heap.size, 0, none⟩ = some (.int .i64 n.dev) := by subst hw1; go_simp
  have c1 : w1.cell? ⟨w.heap.size, 1, none⟩ = some (.int .i64 n.ino) := by subst hw1; go_simp
  have c2 : w1.cell? ⟨w.heap.size, 2, none⟩ = some (.int .i64 n.kind) := by subst hw1; go_simp
  have c3 : w1.cell? ⟨w.heap.size, 3, none⟩ = some (.int .i64 n.mode) := by subst hw1; go_simp
  have c4 : w1.cell? ⟨w.heap.size, 4, none⟩ = some (.int .i64 n.uid) := by subst hw1; go_simp
  have c5 : w1.cell? ⟨w.heap.size, 5, none⟩ = some (.int .i64 n.gid) := by subst hw1; go_simp
  have c6 : w1.cell? ⟨w.heap.size, 6, none⟩ = some (.int .i64 n.size) := by subst hw1; go_simp
  have c7 : w1.cell? ⟨w.heap.size, 7, none⟩ = some (.int .i64 n.blocks) := by subst hw1; go_simp
  have c8 : w1.cell? ⟨w.heap.size, 8, none⟩ = some (.int .i64 n.links) := by subst hw1; go_simp
  have c9 : w1.cell? ⟨w.heap.size, 9, none⟩ = some (.int .i64 n.ta) := by subst hw1; go_simp
  have c10 : w1.cell? ⟨w.heap.size, 10, none⟩ = some (.int .i64 n.tb) := by subst hw1; go_simp
  have c11 : w1.cell? ⟨w.heap.size, 11, none⟩ = some (.int .i64 n.tc) := by subst hw1; go_simp
  have c12 : w1.cell? ⟨w.heap.size, 12, none⟩ = some (.string n.target) := by subst hw1; go_simp
  have c13 : w1.cell? ⟨w.heap.size + 1, 0, none⟩ = some (.int .i64 u) := by subst hw1; go_simp
  have c14 : w1.cell? ⟨w.heap.size + 1, 1, none⟩ = some (.int .i64 g) := by subst hw1; go_simp
  have hb1 : Below w.heap.size w w1 := by
    subst hw1
    refine (((Below.refl _ _).alloc (Nat.le_refl _) _).alloc ?_ _).alloc ?_ _
    · simp
    · simp; omega
  clear hw1
  have hBox : ∀ k, Boxes w w.heap.size (cutM n) u g ((w1.drewN k).setCell ⟨w.heap.size, 3, none⟩ (.int .i64 (n.mode % 4096))) := fun k => by
    refine boxes_of ?_ ?_
    · unfold cutM
      dsimp only
      refine ⟨?_, ?_, ?_, ?_, ?_, ?_, ?_, ?_, ?_, ?_, ?_, ?_, ?_, ?_, ?_⟩ <;> go_simp
    · have hb2 : Below w.heap.size w (w1.drewN k) := hb1.trans ⟨rfl, rfl, rfl, Nat.le_refl _, fun _ _ => rfl⟩
      apply Below.setCell
      · exact hb2
      · exact Nat.le_refl _
  go_quiet (fail)
  have HBox := Lib.hid hBox
  clear hBox
  go_wp2_with (first
    | fail
    | (refine wpList_load_mid rfl 24 (.tmp 3) rfl w.heap.size 0 rfl (cellsN (cutM n)) _ (HBox.out _).node Tryd.underlying24 rfl (sizeNodeV _) ?_)
    | (refine wpList_load_mid rfl 26 (.tmp 4) rfl (w.heap.size + 1) 0 rfl [.int .i64 u, .int .i64 g] _ (HBox.out _).cred Tryd.underlying26 rfl (sizeCredV _ _) ?_))
  refine (HO.out _ (HBox.out _)).mono ?_
  rintro e w2 ⟨rfl, hk2⟩
  have HK2 := Lib.hid hk2
  clear hk2 HBox c0 c1 c2 c3 c4 c5 c6 c7 c8 c9 c10 c11 c12 c13 c14 e0 e1 hfr hb1 HO
  go_wp2_with fail
  refine (HA.out _ HK2.out).mono ?_
  rintro e w3 ⟨rfl, hk3⟩
  obtain ⟨c0, c1, c2, c3, c4, c5, c6, c7, c8, c9, c10, c11, c12, c13, c14⟩ := HCell.out _ hk3
  have HK3 := Lib.hid hk3
  clear hk3 HK2 HA
  cases p
  · go_wp2_with fail
    refine (HX.out _ HK3.out).mono ?_
    rintro e w4 ⟨rfl, hk4⟩
    clear c0 c1 c2 c3 c4 c5 c6 c7 c8 c9 c10 c11 c12 c13 c14
    obtain ⟨c0, c1, c2, c3, c4, c5, c6, c7, c8, c9, c10, c11, c12, c13, c14⟩ := HCell.out _ hk4
    have HK4 := Lib.hid hk4
    clear hk4 HK3
    go_wp2_with fail
    refine (HZ.out _ HK4.out).mono ?_
    rintro e w5 ⟨rfl, hk5⟩
    clear c0 c1 c2 c3 c4 c5 c6 c7 c8 c9 c10 c11 c12 c13 c14
    obtain ⟨c0, c1, c2, c3, c4, c5, c6, c7, c8, c9, c10, c11, c12, c13, c14⟩ := HCell.out _ hk5
    have HK5 := Lib.hid hk5
    clear hk5 HK4
    go_wp2_with fail
    refine (HN.out _ HK5.out).mono ?_
    rintro e w6 ⟨rfl, hk6⟩
    go_wp2_with fail
    go_ret
    exact ⟨rfl, hk6.below⟩
  · go_wp2_with fail
    refine (HX.out _ HK3.out).mono ?_
    rintro e w4 ⟨rfl, hk4⟩
    clear c0 c1 c2 c3 c4 c5 c6 c7 c8 c9 c10 c11 c12 c13 c14
    obtain ⟨c0, c1, c2, c3, c4, c5, c6, c7, c8, c9, c10, c11, c12, c13, c14⟩ := HCell.out _ hk4
    have HK4 := Lib.hid hk4
    clear hk4 HK3
    go_wp2_with fail
    refine (HY.out _ HK4.out).mono ?_
    rintro e w5 ⟨rfl, hk5⟩
    clear c0 c1 c2 c3 c4 c5 c6 c7 c8 c9 c10 c11 c12 c13 c14
    obtain ⟨c0, c1, c2, c3, c4, c5, c6, c7, c8, c9, c10, c11, c12, c13, c14⟩ := HCell.out _ hk5
    have HK5 := Lib.hid hk5
    clear hk5 HK4
    try rw [Bool.true_and]
    have hqq : (q == q) = true := by cases q <;> rfl
    go_wp2_with fail
    refine (HZ.out _ HK5.out).mono ?_
    rintro e w6 ⟨rfl, hk6⟩
    clear c0 c1 c2 c3 c4 c5 c6 c7 c8 c9 c10 c11 c12 c13 c14
    obtain ⟨c0, c1, c2, c3, c4, c5, c6, c7, c8, c9, c10, c11, c12, c13, c14⟩ := HCell.out _ hk6
    have HK6 := Lib.hid hk6
    clear hk6 HK5
    go_wp2_with fail
    refine (HN.out _ HK6.out).mono ?_
    rintro e w7 ⟨rfl, hk7⟩
    go_wp2_with fail
    go_ret
    exact ⟨rfl, hk7.below⟩
end Go.Proofs.YtgnlbmpejkdoiaaDoor
