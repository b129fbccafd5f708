/-
  Hard bytes of a name: a byte 0 and a slash; where a text has none. Conditions: none.
-/
import Derived.Test.YtehieipiagpehaaVRune
import Derived.Lib.SpaceUEq
import Derived.Laws.RangeAny
namespace Go.Proofs.Ytehieipiagpehaa
open Go.RowKit

def hardL : List UInt8 := [0, 47]
theorem hard_of {b : UInt8} : hardL.contains b = true ↔ b = 0 ∨ b = 47 := by simp [hardL]
theorem hard_high {b : UInt8} (h : 128 ≤ b.toNat) : hardL.contains b = false := by
  rw [← Bool.not_eq_true, hard_of]
  rintro (rfl | rfl) <;> simp at h

theorem get_at {s : ByteArray} {i : Nat} (h : i < s.size) : s.data.toList[i]? = some (s.get! i) := by
  have h' : i < s.data.toList.length := by rw [← Lib.size_eq]; exact h
  rw [List.getElem?_eq_getElem h', ← Lib.getD_get!' s i, List.getD_eq_getElem?_getD, List.getElem?_eq_getElem h']
  rfl
theorem get_bang {s : ByteArray} {i : Nat} (h : i < s.size) : s.get! i = s[i]'h := by
  have h2 := get_at h
  rw [Lib.data_getElem? s i h] at h2
  exact (Option.some.inj h2).symm

/-- A character from 128 on holds no hard byte. -/
theorem noAny_multi {s : ByteArray} {pos : Nat} (h : pos < s.size) (hb : 128 ≤ (s[pos]'h).toNat) (hn : Lib.NoAny s.data.toList hardL pos) : Lib.NoAny s.data.toList hardL (pos + (Utf8.decode s pos).2) := by
  have hc := Lib.decodeN_conts (s.size - pos) (s.get! pos).toNat (s.get! (pos + 1)).toNat (s.get! (pos + 2)).toNat (s.get! (pos + 3)).toNat
  rw [← Lib.decode_at] at hc
  obtain ⟨c2, c3, c4, c5⟩ := hc
  intro j b hj hjb
  by_cases hlt : j < pos
  · exact hn j b hlt hjb
  · have hjs : j < s.size := by
      have := (List.getElem?_eq_some_iff.1 hjb).1
      rwa [← Lib.size_eq] at this
    have e : b = s.get! j := by
      rw [get_at hjs] at hjb
      exact (Option.some.inj hjb).symm
    refine hard_high ?_
    subst e
    rcases (show j = pos ∨ j = pos + 1 ∨ j = pos + 2 ∨ j = pos + 3 from by omega) with rfl | rfl | rfl | rfl
    · rw [get_bang h]; exact hb
    · have := (c2 (by omega)).1; omega
    · have := (c3 (by omega)).1; omega
    · have := (c4 (by omega)).1; omega
end Go.Proofs.Ytehieipiagpehaa
