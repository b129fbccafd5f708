/-
  What the program's small readers of a file system return. Conditions: the file system lies in memory.
  What makes a node of the program's returns: a directory's, a file's, a link's. Conditions: a file's size is a number from 0 on.
-/
import Derived.Test.YtknfhphhcnbndaaGreatDoorKVGood
import Derived.Laws.Bits128
set_option linter.unusedVariables false
set_option linter.unusedSimpArgs false
namespace Go.Proofs.YtknfhphhcnbndaaGreatDoor.V
open Go.RowKit

def hasB (h : Fsh) (i : Int) : Bool := decide (0 ≤ i ∧ i < (h.X.length : Int))

set_option maxHeartbeats 1000000 in
theorem has_any (h : Fsh) (i : Int) (w : World) (H : Fs h w) (hn : 0 < h.X.length) :
    Calls Tryz.prog 65 #[.pointer (some ⟨h.p, 0, none⟩), .int .i64 i] w fun e w' => e = .returned (.bool (hasB h i)) ∧ w = w' := by
  obtain ⟨g, cap, hv, _, _⟩ := H.slice hn
  have c0 := H.cell0
  rw [hv] at c0
  clear hv
  have HB := Lib.hid (show hasB h i = (decide (0 ≤ i) && decide (i < (h.X.length : Int))) from by simp [hasB])
  rcases Classical.em (0 ≤ i) with hi | hi
  · have d1 : decide (0 ≤ i) = true := decide_eq_true hi
    go_enter Tryz.func65, Tryz.ntmps65
    go_wp2
    go_ret
    exact ⟨ret_bool (by rw [HB.out, d1]; rfl), rfl⟩
  · have d1 : decide (0 ≤ i) = false := decide_eq_false hi
    go_enter Tryz.func65, Tryz.ntmps65
    go_wp2
    go_ret
    exact ⟨ret_bool (by rw [HB.out, d1]; rfl), rfl⟩

set_option maxHeartbeats 1000000 in
theorem isDir_any (h : Fsh) (i : Nat) (x : Nd × Value) (w : World) (H : Fs h w) (hx : h.X[i]? = some x) :
    Calls Tryz.prog 178 #[.pointer (some ⟨h.p, 0, none⟩), .int .i64 (i : Int)] w fun e w' => e = .returned (.bool (x.1.kind == 2)) ∧ w = w' := by
  have hi : i < h.X.length := (List.getElem?_eq_some_iff.1 hx).1
  obtain ⟨g, cap, hv, _, _⟩ := H.slice (by omega)
  have c0 := H.cell0
  rw [hv] at c0
  have c2 := H.at_node hv hx (k := 2) (by omega) rfl
  clear hv
  go_enter Tryz.func178, Tryz.ntmps178
  go_wp2
  go_ret
  exact ⟨ret_bool rfl, rfl⟩

set_option maxHeartbeats 1000000 in
theorem over_any (h : Fsh) (i : Nat) (x : Nd × Value) (w : World) (H : Fs h w) (hx : h.X[i]? = some x) :
    Calls Tryz.prog 59 #[.pointer (some ⟨h.p, 0, none⟩), .int .i64 (i : Int)] w fun e w' => e = .returned (.int .i64 x.1.over) ∧ w = w' := by
  have hi : i < h.X.length := (List.getElem?_eq_some_iff.1 hx).1
  obtain ⟨g, cap, hv, _, _⟩ := H.slice (by omega)
  have c0 := H.cell0
  rw [hv] at c0
  have c2 := H.at_node hv hx (k := 15) (by omega) rfl
  have hh := has_any h i w H (by omega)
  rw [show hasB h (i : Int) = true from by simp [hasB, hi]] at hh
  clear hv
  go_enter Tryz.func59, Tryz.ntmps59
  go_wp2_with (refine hh.mono ?_; rintro e w2 ⟨rfl, hw⟩; subst hw)
  go_ret
  exact ⟨rfl, rfl⟩
set_option maxHeartbeats 1000000 in
theorem over_no (h : Fsh) (i : Int) (w : World) (H : Fs h w) (hn : 0 < h.X.length) (hi : hasB h i = false) :
    Calls Tryz.prog 59 #[.pointer (some ⟨h.p, 0, none⟩), .int .i64 i] w fun e w' => e = .returned (.int .i64 i) ∧ w = w' := by
  have hh := has_any h i w H hn
  rw [hi] at hh
  go_enter Tryz.func59, Tryz.ntmps59
  go_wp2_with (refine hh.mono ?_; rintro e w2 ⟨rfl, hw⟩; subst hw)
  go_ret
  exact ⟨rfl, rfl⟩

set_option maxHeartbeats 1000000 in
theorem up_any (h : Fsh) (i : Nat) (x : Nd × Value) (w : World) (H : Fs h w) (hx : h.X[i]? = some x) :
    Calls Tryz.prog 189 #[.pointer (some ⟨h.p, 0, none⟩), .int .i64 (i : Int)] w fun e w' => e = .returned (.int .i64 x.1.up) ∧ w = w' := by
  have hi : i < h.X.length := (List.getElem?_eq_some_iff.1 hx).1
  obtain ⟨g, cap, hv, _, _⟩ := H.slice (by omega)
  have c0 := H.cell0
  rw [hv] at c0
  have c2 := H.at_node hv hx (k := 14) (by omega) rfl
  have hh := has_any h i w H (by omega)
  rw [show hasB h (i : Int) = true from by simp [hasB, hi]] at hh
  clear hv
  go_enter Tryz.func189, Tryz.ntmps189
  go_wp2_with (refine hh.mono ?_; rintro e w2 ⟨rfl, hw⟩; subst hw)
  go_ret
  exact ⟨rfl, rfl⟩
set_option maxHeartbeats 1000000 in
theorem up_no (h : Fsh) (i : Int) (w : World) (H : Fs h w) (hn : 0 < h.X.length) (hi : hasB h i = false) :
    Calls Tryz.prog 189 #[.pointer (some ⟨h.p, 0, none⟩), .int .i64 i] w fun e w' => e = .returned (.int .i64 (-1)) ∧ w = w' := by
  have hh := has_any h i w H hn
  rw [hi] at hh
  go_enter Tryz.func189, Tryz.ntmps189
  go_wp2_with (refine hh.mono ?_; rintro e w2 ⟨rfl, hw⟩; subst hw)
  go_ret
  exact ⟨rfl, rfl⟩

end Go.Proofs.YtknfhphhcnbndaaGreatDoor.V

namespace Go.Proofs.YtknfhphhcnbndaaGreatDoor.V
open Go.RowKit

theorem and_mode (n : Int) : bits .and .i64 n 4095 = n % 4096 := by
  have h127 : (BitVec.ofInt 64 4095).toNat = 2 ^ 12 - 1 := by decide
  have key : (BitVec.ofInt 64 n &&& BitVec.ofInt 64 4095).toNat = (n % ((2 ^ 64 : Nat) : Int)).toNat % 2 ^ 12 := by
    rw [BitVec.toNat_and, BitVec.toNat_ofInt, h127, Nat.and_two_pow_sub_one_eq_mod]
  show IntKind.i64.wrap ((BitVec.ofInt 64 n &&& BitVec.ofInt 64 4095).toNat : Nat) = n % 4096
  rw [key, IntKind.wrap_i64]
  omega
def dirNd (mode up : Int) : Nd := { dev := 0, ino := 0, kind := 2, mode := mode, uid := 0, gid := 0, size := 4096, blocks := 8, links := 2, t0 := 0, t1 := 0, t2 := 0, target := ⟨#[]⟩, dead := false, up := up, over := 0, ents := [] }
def aggOf (n : Nd) : Value := .agg (n.cells (.slice none 0 0)).toArray
theorem sizeNode : (Tryz.prog.info? 135).map (·.size) = some 17 := by kernel_rfl
theorem sizeKnown : (Tryz.prog.info? 66).map (·.size) = some 13 := by kernel_rfl

set_option maxHeartbeats 1000000 in
theorem directory_any (m u : Int) (w : World) :
    Calls Tryz.prog 78 #[.int .i64 m, .int .i64 u] w fun e w' => e = .returned (aggOf (dirNd (m % 4096) u)) ∧ Below w.heap.size w w' := by
  rw [← and_mode m]
  go_enter Tryz.func78, Tryz.ntmps78
  go_wp2
  refine bodyPost_ret (v := aggOf (dirNd (bits .and .i64 m 4095) u)) ?_ rfl ⟨rfl, ((Below.refl _ _).alloc (Nat.le_refl _) _).alloc (by simp) _⟩
  exact results_cell_row Tryz.results78 _ _ w.heap.size _ _ _ _ rfl (heap_alloc2_old _ _ _) Tryz.underlying135 rfl sizeNode

end Go.Proofs.YtknfhphhcnbndaaGreatDoor.V
