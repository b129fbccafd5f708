/-
  What the proofs of this seat lean on: the library's tables lie as they are laid; texts as lists of bytes; what a call keeps. Conditions: each fact's own.
-/
import Derived.Test.YtlilnljneakngaaDoorRows
import Derived.Test.YtlilnljneakngaaDoorQMath
import Derived.Test.YtlilnljneakngaaDoorShelfB
import Derived.WalkKit
import Derived.WalkSpells
import Derived.WalkLawsBesides
import Derived.WalkMore
import Derived.ScopeJumps
import Derived.Lib.Hide
import Derived.Lib.OthersKept
import Derived.Lib.BufSteps
import Derived.Lib.LaidU8
set_option linter.unusedVariables false
namespace Go.Proofs.YtlilnljneakngaaDoor
open Go.RowKit

theorem below_two {w a b : World} (h : Below w.heap.size w a) (k : Below a.heap.size a b) : Below w.heap.size w b := h.trans (k.mono h.size)
theorem below_at {B : Nat} {w a b : World} (hB : B ≤ a.heap.size) (h : Below B w a) (k : Below a.heap.size a b) : Below B w b := h.trans (k.mono hB)
theorem cell_lt {w : World} {a : Addr} {v : Value} (h : w.cell? a = some v) : a.block < w.heap.size := by
  apply Classical.byContradiction
  intro hn
  have : w.heap[a.block]? = none := Array.getElem?_eq_none (by omega)
  unfold World.cell? at h
  simp [this] at h

/-- The library's tables lie; its one variable holds a number. -/
def Tab (w : World) : Prop := Lib.Utf8Tabs 0 1 w ∧ ∃ m : Int, w.cell? ⟨2, 0, none⟩ = some (.int .i64 m)
theorem Tab.keep {w w' : World} (h : Tab w) (hb : Below w.heap.size w w') : Tab w' := by
  obtain ⟨h1, m, h2⟩ := h
  exact ⟨Utf8Tabs_below h1 hb, m, by rw [hb.cell (p := ⟨2, 0, none⟩) (cell_lt h2)]; exact h2⟩
theorem Tab.keepB {w w' : World} {B : Nat} (h : Tab w) (hB : w.heap.size ≤ B) (hb : Below B w w') : Tab w' := h.keep (hb.mono hB)

/-- A text's bytes. -/
abbrev L (s : ByteArray) : Bytes := s.data.toList
theorem L_len (s : ByteArray) : (L s).length = s.size := (Lib.size_eq s).symm
theorem L_mk (l : Bytes) : L ⟨l.toArray⟩ = l := rfl
theorem L_eta (s : ByteArray) : (⟨(L s).toArray⟩ : ByteArray) = s := by cases s; rfl
theorem L_ext {s t : ByteArray} (h : L s = L t) : s = t := by rw [← L_eta s, ← L_eta t, h]
theorem L_ne {s : ByteArray} : L s ≠ [] ↔ 0 < s.size := by
  rw [← L_len]
  exact (List.length_pos_iff).symm
theorem get_nth (s : ByteArray) (i : Nat) : (s.get! i).toNat = nth (L s) i := by
  unfold nth L
  cases s with
  | mk d =>
    simp only [ByteArray.get!, Array.getElem!_eq_getD, Array.getD_eq_getD_getElem?]
    rw [List.getD_eq_getElem?_getD, Array.getElem?_toList]
    rfl
theorem get_at (s : ByteArray) (k : Nat) (h : k < s.size) : (s[k]'h) = (L s)[k]'(by rw [L_len]; exact h) := rfl
theorem get_at0 (s : ByteArray) (h : 0 < s.size) : (s[0]'h).toNat = nth (L s) 0 := by
  rw [get_at]
  unfold nth
  rw [List.getD_eq_getElem?_getD, List.getElem?_eq_getElem (by rw [L_len]; exact h)]
  rfl
theorem decode_L (s : ByteArray) : Utf8.decode s 0 = dec (L s) := by
  rw [Lib.decode_at, get_nth, get_nth, get_nth, get_nth]
  unfold dec
  rw [L_len]
  rfl
theorem decodeGo_L (s : ByteArray) (h : L s ≠ []) : Lib.decodeGo s = dec (L s) := by
  have := L_ne.1 h
  rw [Lib.decodeGo, if_neg (by omega), decode_L]
theorem L_extract (s : ByteArray) (a b : Nat) : L (s.extract a b) = ((L s).take b).drop a := by
  rw [L, ByteArray.data_extract, Array.toList_extract, List.extract_eq_take_drop, List.drop_take]
theorem L_from (s : ByteArray) (a : Nat) : L (s.extract a s.size) = (L s).drop a := by
  rw [L_extract, List.take_of_length_le (by rw [L_len]; exact Nat.le_refl _)]
theorem L_to (s : ByteArray) (b : Nat) : L (s.extract 0 b) = (L s).take b := by
  rw [L_extract, List.drop_zero]
theorem toList_L (s : ByteArray) : s.toList = L s := Lib.toList_data s
theorem beq_L (s t : ByteArray) : (s.toList == t.toList) = decide (L s = L t) := by
  rw [toList_L, toList_L]
  by_cases h : L s = L t
  · rw [h, beq_self_eq_true, decide_eq_true rfl]
  · rw [beq_eq_false_iff_ne.2 h, decide_eq_false h]
theorem L_data (a : Array UInt8) : L ⟨a⟩ = a.toList := rfl
end Go.Proofs.YtlilnljneakngaaDoor
