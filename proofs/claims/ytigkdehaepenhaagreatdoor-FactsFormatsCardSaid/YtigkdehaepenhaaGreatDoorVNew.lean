/-
  What the program's small readers of a file system return. Conditions: the file system lies in memory.
  What makes a node of the program's returns: a directory's, a file's, a link's. Conditions: a file's size is a number from 0 on.
-/
import Derived.Test.YtigkdehaepenhaaGreatDoorVFs
import Derived.Laws.Bits128
namespace Go.Proofs.YtigkdehaepenhaaGreatDoor.V
open Go.RowKit

def hasB (h : Fsh) (i : Int) : Bool := decide (0 ≤ i ∧ i < (h.X.length : Int))

set_option maxHeartbeats 1000000 in
theorem has_any (h : Fsh) (i : Int) (w : World) (H : Fs h w) (hn : 0 < h.X.length) :
    Calls Tryz.prog 44 #[.pointer (some ⟨h.p, 0, none⟩), .int .i64 i] w fun e w' => e = .returned (.bool (hasB h i)) ∧ w = w' := by
  obtain ⟨g, cap, hv, _, _⟩ := H.slice hn
  have c0 := H.cell0
  rw [hv] at c0
  clear hv
  have HB := Lib.hid (show hasB h i = (decide (0 ≤ i) && decide (i < (h.X.length : Int))) from by simp [hasB])
  rcases Classical.em (0 ≤ i) with hi | hi
  · have d1 : decide (0 ≤ i) = true := decide_eq_true hi
    go_enter Tryz.func44, Tryz.ntmps44
    go_wp2
    go_ret
    exact ⟨ret_bool (by rw [HB.out, d1]; rfl), rfl⟩
  · have d1 : decide (0 ≤ i) = false := decide_eq_false hi
    go_enter Tryz.func44, Tryz.ntmps44
    go_wp2
    go_ret
    exact ⟨ret_bool (by rw [HB.out, d1]; rfl), rfl⟩

set_option maxHeartbeats 1000000 in
theorem isDir_any (h : Fsh) (i : Nat) (x : Nd × Value) (w : World) (H : Fs h w) (hx : h.X[i]? = some x) :
    Calls Tryz.prog 100 #[.pointer (some ⟨h.p, 0, none⟩), .int .i64 (i : Int)] w fun e w' => e = .returned (.bool (x.1.kind == 2)) ∧ w = w' := by
  have hi : i < h.X.length := (List.getElem?_eq_some_iff.1 hx).1
  obtain ⟨g, cap, hv, _, _⟩ := H.slice (by omega)
  have c0 := H.cell0
  rw [hv] at c0
  have c2 := H.at_node hv hx (k := 2) (by omega) rfl
  clear hv
  go_enter Tryz.func100, Tryz.ntmps100
  go_wp2
  go_ret
  exact ⟨ret_bool rfl, rfl⟩

set_option maxHeartbeats 1000000 in
theorem isFirst_any (h : Fsh) (i : Nat) (x : Nd × Value) (w : World) (H : Fs h w) (hx : h.X[i]? = some x) :
    Calls Tryz.prog 55 #[.pointer (some ⟨h.p, 0, none⟩), .int .i64 (i : Int)] w fun e w' => e = .returned (.bool (x.1.ino == 1)) ∧ w = w' := by
  have hi : i < h.X.length := (List.getElem?_eq_some_iff.1 hx).1
  obtain ⟨g, cap, hv, _, _⟩ := H.slice (by omega)
  have c0 := H.cell0
  rw [hv] at c0
  have c2 := H.at_node hv hx (k := 1) (by omega) rfl
  clear hv
  go_enter Tryz.func55, Tryz.ntmps55
  go_wp2
  go_ret
  exact ⟨ret_bool rfl, rfl⟩

set_option maxHeartbeats 1000000 in
theorem over_any (h : Fsh) (i : Nat) (x : Nd × Value) (w : World) (H : Fs h w) (hx : h.X[i]? = some x) :
    Calls Tryz.prog 105 #[.pointer (some ⟨h.p, 0, none⟩), .int .i64 (i : Int)] w fun e w' => e = .returned (.int .i64 x.1.over) ∧ w = w' := by
  have hi : i < h.X.length := (List.getElem?_eq_some_iff.1 hx).1
  obtain ⟨g, cap, hv, _, _⟩ := H.slice (by omega)
  have c0 := H.cell0
  rw [hv] at c0
  have c2 := H.at_node hv hx (k := 15) (by omega) rfl
  have hh := has_any h i w H (by omega)
  rw [show hasB h (i : Int) = true from by simp [hasB, hi]] at hh
  clear hv
  go_enter Tryz.func105, Tryz.ntmps105
  go_wp2_with (refine hh.mono ?_; rintro e w2 ⟨rfl, hw⟩; subst hw)
  go_ret
  exact ⟨rfl, rfl⟩
set_option maxHeartbeats 1000000 in
theorem over_no (h : Fsh) (i : Int) (w : World) (H : Fs h w) (hn : 0 < h.X.length) (hi : hasB h i = false) :
    Calls Tryz.prog 105 #[.pointer (some ⟨h.p, 0, none⟩), .int .i64 i] w fun e w' => e = .returned (.int .i64 i) ∧ w = w' := by
  have hh := has_any h i w H hn
  rw [hi] at hh
  go_enter Tryz.func105, Tryz.ntmps105
  go_wp2_with (refine hh.mono ?_; rintro e w2 ⟨rfl, hw⟩; subst hw)
  go_ret
  exact ⟨rfl, rfl⟩

set_option maxHeartbeats 1000000 in
theorem up_any (h : Fsh) (i : Nat) (x : Nd × Value) (w : World) (H : Fs h w) (hx : h.X[i]? = some x) :
    Calls Tryz.prog 118 #[.pointer (some ⟨h.p, 0, none⟩), .int .i64 (i : Int)] w fun e w' => e = .returned (.int .i64 x.1.up) ∧ w = w' := by
  have hi : i < h.X.length := (List.getElem?_eq_some_iff.1 hx).1
  obtain ⟨g, cap, hv, _, _⟩ := H.slice (by omega)
  have c0 := H.cell0
  rw [hv] at c0
  have c2 := H.at_node hv hx (k := 14) (by omega) rfl
  have hh := has_any h i w H (by omega)
  rw [show hasB h (i : Int) = true from by simp [hasB, hi]] at hh
  clear hv
  go_enter Tryz.func118, Tryz.ntmps118
  go_wp2_with (refine hh.mono ?_; rintro e w2 ⟨rfl, hw⟩; subst hw)
  go_ret
  exact ⟨rfl, rfl⟩
set_option maxHeartbeats 1000000 in
theorem up_no (h : Fsh) (i : Int) (w : World) (H : Fs h w) (hn : 0 < h.X.length) (hi : hasB h i = false) :
    Calls Tryz.prog 118 #[.pointer (some ⟨h.p, 0, none⟩), .int .i64 i] w fun e w' => e = .returned (.int .i64 (-1)) ∧ w = w' := by
  have hh := has_any h i w H hn
  rw [hi] at hh
  go_enter Tryz.func118, Tryz.ntmps118
  go_wp2_with (refine hh.mono ?_; rintro e w2 ⟨rfl, hw⟩; subst hw)
  go_ret
  exact ⟨rfl, rfl⟩

end Go.Proofs.YtigkdehaepenhaaGreatDoor.V

namespace Go.Proofs.YtigkdehaepenhaaGreatDoor.V
open Go.RowKit

theorem and_mode (n : Int) : bits .and .i64 n 4095 = n % 4096 := by
  have h127 : (BitVec.ofInt 64 4095).toNat = 2 ^ 12 - 1 := by decide
  have key : (BitVec.ofInt 64 n &&& BitVec.ofInt 64 4095).toNat = (n % ((2 ^ 64 : Nat) : Int)).toNat % 2 ^ 12 := by
    rw [BitVec.toNat_and, BitVec.toNat_ofInt, h127, Nat.and_two_pow_sub_one_eq_mod]
  show IntKind.i64.wrap ((BitVec.ofInt 64 n &&& BitVec.ofInt 64 4095).toNat : Nat) = n % 4096
  rw [key, IntKind.wrap_i64]
  omega
def dirNd (mode up : Int) : Nd := { dev := 0, ino := 0, kind := 2, mode := mode, uid := 0, gid := 0, size := 4096, blocks := 8, links := 2, t0 := 0, t1 := 0, t2 := 0, target := ⟨#[]⟩, dead := false, up := up, over := 0, ents := [] }
def fileNd (mode size blocks : Int) : Nd := { dev := 0, ino := 0, kind := 1, mode := mode, uid := 0, gid := 0, size := size, blocks := blocks, links := 0, t0 := 0, t1 := 0, t2 := 0, target := ⟨#[]⟩, dead := false, up := -1, over := 0, ents := [] }
def linkNd (text : ByteArray) : Nd := { dev := 0, ino := 0, kind := 3, mode := 511, uid := 0, gid := 0, size := (text.size : Int), blocks := 0, links := 0, t0 := 0, t1 := 0, t2 := 0, target := text, dead := false, up := -1, over := 0, ents := [] }
def aggOf (n : Nd) : Value := .agg (n.cells (.slice none 0 0)).toArray
/-- The blocks of a file of that size. -/
def blkOf (n : Int) : Int := 8 * (n / 4096 + if 0 < n % 4096 then 1 else 0)
theorem sizeNode : (Tryz.prog.info? 92).map (·.size) = some 17 := by kernel_rfl
theorem sizeKnown : (Tryz.prog.info? 62).map (·.size) = some 13 := by kernel_rfl

set_option maxHeartbeats 1000000 in
theorem directory_any (m u : Int) (w : World) :
    Calls Tryz.prog 37 #[.int .i64 m, .int .i64 u] w fun e w' => e = .returned (aggOf (dirNd (m % 4096) u)) ∧ Below w.heap.size w w' := by
  rw [← and_mode m]
  go_enter Tryz.func37, Tryz.ntmps37
  go_wp2
  refine bodyPost_ret (v := aggOf (dirNd (bits .and .i64 m 4095) u)) ?_ rfl ⟨rfl, ((Below.refl _ _).alloc (Nat.le_refl _) _).alloc (by simp) _⟩
  exact results_cell_row Tryz.results37 _ _ w.heap.size _ _ _ _ rfl (heap_alloc2_old _ _ _) Tryz.underlying92 rfl sizeNode

set_option maxHeartbeats 1000000 in
theorem link_any (s : ByteArray) (w : World) :
    Calls Tryz.prog 74 #[.string s] w fun e w' => e = .returned (aggOf (linkNd s)) ∧ Below w.heap.size w w' := by
  go_enter Tryz.func74, Tryz.ntmps74
  go_wp2
  refine bodyPost_ret (v := aggOf (linkNd s)) ?_ rfl ⟨rfl, ((Below.refl _ _).alloc (Nat.le_refl _) _)⟩
  exact results_cell_row Tryz.results74 _ _ w.heap.size _ _ _ _ rfl (heap_alloc_new _ _) Tryz.underlying92 rfl sizeNode

theorem quo_rem (n p : Int) (h : 0 ≤ n) : Int.tdiv n p = n / p ∧ Int.tmod n p = n % p := ⟨Int.tdiv_eq_ediv_of_nonneg h, Int.tmod_eq_emod_of_nonneg h⟩

set_option maxHeartbeats 1000000 in
theorem file_any (m n : Int) (w : World) (h0 : 0 ≤ n) (h1 : n ≤ 9223372036854775807) :
    Calls Tryz.prog 72 #[.int .i64 m, .int .i64 n] w fun e w' => e = .returned (aggOf (fileNd (m % 4096) n (blkOf n))) ∧ Below w.heap.size w w' := by
  rw [← and_mode m]
  obtain ⟨q, hq, q0, q1⟩ : ∃ q, Int.tdiv n 4096 = q ∧ 0 ≤ q ∧ q ≤ 2251799813685247 := ⟨_, rfl, by rw [(quo_rem n 4096 h0).1]; omega, by rw [(quo_rem n 4096 h0).1]; omega⟩
  obtain ⟨r, hr, r0, r1⟩ : ∃ r, Int.tmod n 4096 = r ∧ 0 ≤ r ∧ r < 4096 := ⟨_, rfl, by rw [(quo_rem n 4096 h0).2]; omega, by rw [(quo_rem n 4096 h0).2]; omega⟩
  have HB := Lib.hid (show blkOf n = 8 * (q + if 0 < r then 1 else 0) from by rw [blkOf, ← hq, ← hr, (quo_rem n 4096 h0).1, (quo_rem n 4096 h0).2])
  clear h0 h1
  by_cases hp : 0 < r
  · go_enter Tryz.func72, Tryz.ntmps72
    go_wp2
    refine bodyPost_ret (v := aggOf (fileNd (bits .and .i64 m 4095) n (8 * (q + 1)))) ?_ rfl ⟨by rw [HB.out, if_pos hp], ((Below.refl _ _).alloc (Nat.le_refl _) _)⟩
    exact results_cell_row Tryz.results72 _ _ w.heap.size _ _ _ _ rfl (heap_alloc_new _ _) Tryz.underlying92 rfl sizeNode
  · go_enter Tryz.func72, Tryz.ntmps72
    go_wp2
    refine bodyPost_ret (v := aggOf (fileNd (bits .and .i64 m 4095) n (8 * q))) ?_ rfl ⟨by rw [HB.out, if_neg (by omega), Int.add_zero], ((Below.refl _ _).alloc (Nat.le_refl _) _)⟩
    exact results_cell_row Tryz.results72 _ _ w.heap.size _ _ _ _ rfl (heap_alloc_new _ _) Tryz.underlying92 rfl sizeNode
end Go.Proofs.YtigkdehaepenhaaGreatDoor.V
