/-
  Plain facts on the characters of a text (a list of bytes): how long the first one is, the characters one by one, and what the chapter makes of them. Conditions: none.
  What the proofs of this seat lean on: the library's tables lie as they are laid; texts as lists of bytes; what a call keeps. Conditions: each fact's own.
-/
import Derived.Lib.DecodeN
import Derived.Test.YtknfhphhcnbndaaGreatDoorRows
import Derived.Test.YtknfhphhcnbndaaGreatDoorShelfB
import Derived.Test.YtknfhphhcnbndaaGreatDoorShelf
import Derived.WalkKit
import Derived.WalkSpells
import Derived.WalkLawsBesides
import Derived.WalkMore
import Derived.ScopeJumps
import Derived.Lib.Hide
import Derived.Lib.OthersKept
import Derived.Lib.BufSteps
import Derived.Lib.LaidU8
set_option linter.unusedSimpArgs false
set_option linter.unusedVariables false
namespace Go.Proofs.YtknfhphhcnbndaaGreatDoor.Q

abbrev Bytes := List UInt8
def nth (l : Bytes) (i : Nat) : Nat := (l.getD i 0).toNat
/-- The first character's number, and its bytes. -/
def dec (l : Bytes) : Nat × Nat := Lib.decodeN l.length (nth l 0) (nth l 1) (nth l 2) (nth l 3)
def sz (l : Bytes) : Nat := (dec l).2

/-- The plain bytes below 80. -/
def plainB (n : Nat) : Bool := (decide (65 ≤ n) && decide (n ≤ 90)) || (decide (97 ≤ n) && decide (n ≤ 122)) || (decide (48 ≤ n) && decide (n ≤ 57)) || [95, 64, 37, 43, 61, 58, 44, 46, 47, 45].contains n
/-- What a byte that stands alone is: 0 plain, 1 hard, 2 neither. -/
def kb (n : Nat) : Nat := if n < 32 ∨ 127 ≤ n then 1 else if plainB n then 0 else 2
/-- A byte between quotes. -/
def qb (b : UInt8) : Bytes := if b = 39 then [39, 92, 39, 39] else [b]
def bt (l : Bytes) : Bytes := 39 :: (l.flatMap qb ++ [39])
end Go.Proofs.YtknfhphhcnbndaaGreatDoor.Q

namespace Go.Proofs.YtknfhphhcnbndaaGreatDoor.Q
open Go.RowKit

theorem below_two {w a b : World} (h : Below w.heap.size w a) (k : Below a.heap.size a b) : Below w.heap.size w b := h.trans (k.mono h.size)
theorem cell_lt {w : World} {a : Addr} {v : Value} (h : w.cell? a = some v) : a.block < w.heap.size := by
  apply Classical.byContradiction
  intro hn
  have : w.heap[a.block]? = none := Array.getElem?_eq_none (by omega)
  unfold World.cell? at h
  simp [this] at h

/-- The library's tables lie; its one variable holds a number. -/
def Tab (w : World) : Prop := Lib.Utf8Tabs 2 3 w ∧ ∃ m : Int, w.cell? ⟨4, 0, none⟩ = some (.int .i64 m)
theorem Tab.keep {w w' : World} (h : Tab w) (hb : Below w.heap.size w w') : Tab w' := by
  obtain ⟨h1, m, h2⟩ := h
  exact ⟨Utf8Tabs_below h1 hb, m, by rw [hb.cell (p := ⟨4, 0, none⟩) (cell_lt h2)]; exact h2⟩
/-- A text's bytes. -/
abbrev L (s : ByteArray) : Bytes := s.data.toList
theorem L_len (s : ByteArray) : (L s).length = s.size := (Lib.size_eq s).symm
theorem L_eta (s : ByteArray) : (⟨(L s).toArray⟩ : ByteArray) = s := by cases s; rfl
theorem L_ext {s t : ByteArray} (h : L s = L t) : s = t := by rw [← L_eta s, ← L_eta t, h]
end Go.Proofs.YtknfhphhcnbndaaGreatDoor.Q
