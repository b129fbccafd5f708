/-
  What width.Rune returns: the table's width of the number; and the reference's Width: the same. Conditions: the package's table lies as its text lays it.
-/
import Derived.Test.YtemnbleacjpfcaaDoorRows
import Derived.Test.YtemnbleacjpfcaaDoorWMath
import Derived.WalkKit
import Derived.WalkSpells
import Derived.WalkLawsBesides
import Derived.Lib.Hide
import Derived.Lib.OthersKept
namespace Go.Proofs.YtemnbleacjpfcaaDoor.W
open Go.RowKit

theorem ret_int {k : IntKind} {a b : Int} (h : a = b) : Ending.returned (.int k a) = .returned (.int k b) := by rw [h]
theorem below_two {w a b : World} (h : Below w.heap.size w a) (k : Below a.heap.size a b) : Below w.heap.size w b := h.trans (k.mono h.size)

def rowAt (k : Nat) : Int × Int × Int := rowsL.getD k (0, 0, 0)

/-- The table lies in block b from off on. -/
structure TabAt (b off cap : Nat) (w : World) : Prop where
  var : w.cell? ⟨0, 0, none⟩ = some (.slice (some ⟨b, off, none⟩) 17 cap)
  lo : ∀ k, k < 17 → w.cell? ⟨b, off + k * 3, none⟩ = some (.int .i32 (rowAt k).1)
  hi : ∀ k, k < 17 → w.cell? ⟨b, off + k * 3 + 1, none⟩ = some (.int .i32 (rowAt k).2.1)
  wide : ∀ k, k < 17 → w.cell? ⟨b, off + k * 3 + 2, none⟩ = some (.int .i64 (rowAt k).2.2)
def Tab (w : World) : Prop := ∃ b off cap, TabAt b off cap w

theorem cell_lt {w : World} {a : Addr} {v : Value} (h : w.cell? a = some v) : a.block < w.heap.size := by
  apply Classical.byContradiction
  intro hn
  have : w.heap[a.block]? = none := Array.getElem?_eq_none (by omega)
  unfold World.cell? at h
  simp [this] at h

theorem TabAt.keep {b off cap : Nat} {w w' : World} (h : TabAt b off cap w) (hb : Below w.heap.size w w') : TabAt b off cap w' :=
  ⟨by rw [hb.cell (p := ⟨0, 0, none⟩) (cell_lt h.var)]; exact h.var,
   fun k hk => by rw [hb.cell (p := ⟨b, off + k * 3, none⟩) (cell_lt (h.lo k hk))]; exact h.lo k hk,
   fun k hk => by rw [hb.cell (p := ⟨b, off + k * 3 + 1, none⟩) (cell_lt (h.hi k hk))]; exact h.hi k hk,
   fun k hk => by rw [hb.cell (p := ⟨b, off + k * 3 + 2, none⟩) (cell_lt (h.wide k hk))]; exact h.wide k hk⟩
theorem Tab.keep {w w' : World} (h : Tab w) (hb : Below w.heap.size w w') : Tab w' := by
  obtain ⟨b, off, cap, h⟩ := h
  exact ⟨b, off, cap, h.keep hb⟩

theorem drop_row (k : Nat) (hk : k < 17) : rowsL.drop k = rowAt k :: rowsL.drop (k + 1) := by
  have hl : k < rowsL.length := hk
  rw [List.drop_eq_getElem_cons hl]
  unfold rowAt
  simp [List.getD, hl]
theorem look_row_lt (k : Nat) (hk : k < 17) (r : Int) (h : r < (rowAt k).1) : look (rowsL.drop k) r = 1 := by
  rw [drop_row k hk]; exact look_lt h
theorem look_row_in (k : Nat) (hk : k < 17) (r : Int) (h : ¬ r < (rowAt k).1) (h2 : r ≤ (rowAt k).2.1) : look (rowsL.drop k) r = (rowAt k).2.2 := by
  rw [drop_row k hk]; exact look_in h h2
theorem look_row_on (k : Nat) (hk : k < 17) (r : Int) (h : ¬ r < (rowAt k).1) (h2 : ¬ r ≤ (rowAt k).2.1) : look (rowsL.drop k) r = look (rowsL.drop (k + 1)) r := by
  rw [drop_row k hk]; exact look_on h h2

def RuneRel (r : Int) (w : World) (i : Value) (w' : World) : Prop := ∃ k : Nat, k ≤ 17 ∧ i = .int .i64 k ∧ look (rowsL.drop k) r = runeW r ∧ Below w.heap.size w w'

set_option maxHeartbeats 1000000 in
theorem rune_any (r : Int) (w : World) (ht : Tab w) :
    Calls Tryd.prog 28 #[.int .i32 r] w fun e w' => e = .returned (.int .i64 (runeW r)) ∧ Below w.heap.size w w' := by
  obtain ⟨b, off, cap, ht⟩ := ht
  have hv := ht.var
  have HT := Lib.hid ht
  clear ht
  go_enter Tryd.func28, Tryd.ntmps28
  go_wp2
  clear hv
  go_loopw [7] (RuneRel r w) (fun i _ => 17 - (intOf i).toNat)
  case atStart => exact ⟨0, by omega, rfl, rfl, Below.refl _ _⟩
  case round =>
    obtain ⟨k, hk, rfl, hl, hb⟩ := hrel
    have HB := Lib.hid hb
    have HL := Lib.hid hl
    have T := HT.out.keep hb
    clear hb hl
    by_cases hlt : k < 17
    · have c0 := T.lo k hlt
      have c1 := T.hi k hlt
      have c2 := T.wide k hlt
      clear T
      go_wp2
      · go_ret
        exact ⟨ret_int (by rw [← HL.out, look_row_lt k hlt r ‹_›]), HB.out.alloc HB.out.size _⟩
      · go_ret
        have h1 : (rowAt k).1 ≤ r := ‹_›
        exact ⟨ret_int (by rw [← HL.out, look_row_in k hlt r (by omega) ‹_›]), HB.out.alloc HB.out.size _⟩
      · go_roundw
        case rel =>
          have h1 : (rowAt k).1 ≤ r := ‹_›
          have h2 : (rowAt k).2.1 < r := ‹_›
          exact ⟨k + 1, by omega, by go_num, by rw [← HL.out, look_row_on k hlt r (by omega) (by omega)], HB.out.alloc HB.out.size _⟩
        case measure => simp [intOf]; omega
    · obtain rfl : k = 17 := by omega
      clear T
      go_wp2
      go_ret
      exact ⟨ret_int (by rw [← HL.out]; rfl), HB.out⟩
end Go.Proofs.YtemnbleacjpfcaaDoor.W
