/-
  What the program's small readers of a file system return. Conditions: the file system lies in memory.
  What makes a node of the program's returns: a directory's, a file's, a link's. Conditions: a file's size is a number from 0 on.
-/
import Derived.Test.YtigkdehaepenhaaDoorVFs
import Derived.Laws.Bits128
namespace Go.Proofs.YtigkdehaepenhaaDoor.V
open Go.RowKit

def hasB (h : Fsh) (i : Int) : Bool := decide (0 ≤ i ∧ i < (h.X.length : Int))

set_option maxHeartbeats 1000000 in
theorem has_any (h : Fsh) (i : Int) (w : World) (H : Fs h w) (hn : 0 < h.X.length) :
    Calls Tryd.prog 25 #[.pointer (some ⟨h.p, 0, none⟩), .int .i64 i] w fun e w' => e = .returned (.bool (hasB h i)) ∧ w = w' := by
  obtain ⟨g, cap, hv, _, _⟩ := H.slice hn
  have c0 := H.cell0
  rw [hv] at c0
  clear hv
  have HB := Lib.hid (show hasB h i = (decide (0 ≤ i) && decide (i < (h.X.length : Int))) from by simp [hasB])
  rcases Classical.em (0 ≤ i) with hi | hi
  · have d1 : decide (0 ≤ i) = true := decide_eq_true hi
    go_enter Tryd.func25, Tryd.ntmps25
    go_wp2
    go_ret
    exact ⟨ret_bool (by rw [HB.out, d1]; rfl), rfl⟩
  · have d1 : decide (0 ≤ i) = false := decide_eq_false hi
    go_enter Tryd.func25, Tryd.ntmps25
    go_wp2
    go_ret
    exact ⟨ret_bool (by rw [HB.out, d1]; rfl), rfl⟩





end Go.Proofs.YtigkdehaepenhaaDoor.V

namespace Go.Proofs.YtigkdehaepenhaaDoor.V
open Go.RowKit

theorem and_mode (n : Int) : bits .and .i64 n 4095 = n % 4096 := by
  have h127 : (BitVec.ofInt 64 4095).toNat = 2 ^ 12 - 1 := by decide
  have key : (BitVec.ofInt 64 n &&& BitVec.ofInt 64 4095).toNat = (n % ((2 ^ 64 : Nat) : Int)).toNat % 2 ^ 12 := by
    rw [BitVec.toNat_and, BitVec.toNat_ofInt, h127, Nat.and_two_pow_sub_one_eq_mod]
  show IntKind.i64.wrap ((BitVec.ofInt 64 n &&& BitVec.ofInt 64 4095).toNat : Nat) = n % 4096
  rw [key, IntKind.wrap_i64]
  omega
def dirNd (mode up : Int) : Nd := { dev := 0, ino := 0, kind := 2, mode := mode, uid := 0, gid := 0, size := 4096, blocks := 8, links := 2, t0 := 0, t1 := 0, t2 := 0, target := ⟨#[]⟩, dead := false, up := up, over := 0, ents := [] }
def fileNd (mode size blocks : Int) : Nd := { dev := 0, ino := 0, kind := 1, mode := mode, uid := 0, gid := 0, size := size, blocks := blocks, links := 0, t0 := 0, t1 := 0, t2 := 0, target := ⟨#[]⟩, dead := false, up := -1, over := 0, ents := [] }
def linkNd (text : ByteArray) : Nd := { dev := 0, ino := 0, kind := 3, mode := 511, uid := 0, gid := 0, size := (text.size : Int), blocks := 0, links := 0, t0 := 0, t1 := 0, t2 := 0, target := text, dead := false, up := -1, over := 0, ents := [] }
def aggOf (n : Nd) : Value := .agg (n.cells (.slice none 0 0)).toArray
/-- The blocks of a file of that size. -/
def blkOf (n : Int) : Int := 8 * (n / 4096 + if 0 < n % 4096 then 1 else 0)
theorem sizeNode : (Tryd.prog.info? 59).map (·.size) = some 17 := by kernel_rfl
theorem sizeKnown : (Tryd.prog.info? 46).map (·.size) = some 13 := by kernel_rfl

set_option maxHeartbeats 1000000 in
theorem directory_any (m u : Int) (w : World) :
    Calls Tryd.prog 19 #[.int .i64 m, .int .i64 u] w fun e w' => e = .returned (aggOf (dirNd (m % 4096) u)) ∧ Below w.heap.size w w' := by
  rw [← and_mode m]
  go_enter Tryd.func19, Tryd.ntmps19
  go_wp2
  refine bodyPost_ret (v := aggOf (dirNd (bits .and .i64 m 4095) u)) ?_ rfl ⟨rfl, ((Below.refl _ _).alloc (Nat.le_refl _) _).alloc (by simp) _⟩
  exact results_cell_row Tryd.results19 _ _ w.heap.size _ _ _ _ rfl (heap_alloc2_old _ _ _) Tryd.underlying59 rfl sizeNode


theorem quo_rem (n p : Int) (h : 0 ≤ n) : Int.tdiv n p = n / p ∧ Int.tmod n p = n % p := ⟨Int.tdiv_eq_ediv_of_nonneg h, Int.tmod_eq_emod_of_nonneg h⟩

end Go.Proofs.YtigkdehaepenhaaDoor.V
