/-
  What quote.first returns: the kind and the length of a text's first character. Conditions: the text isn't empty; the library's tables lie.
-/
import Derived.Test.YtknfhphhcnbndaaGreatDoorGQBase
set_option linter.unusedSimpArgs false
set_option linter.unusedVariables false
namespace Go.Proofs.YtknfhphhcnbndaaGreatDoor.Q
open Go.RowKit

theorem idx_neg (l : List UInt8) (c : UInt8) : Lib.indexByte l c = -1 ↔ c ∉ l := by
  induction l with
  | nil => simp [Lib.indexByte]
  | cons b l ih =>
    simp only [Lib.indexByte, List.mem_cons, not_or]
    by_cases h : b = c
    · subst h; simp
    · have : (b == c) = false := beq_eq_false_iff_ne.2 h
      rw [this]
      have hp : -1 ≤ Lib.indexByte l c := by
        clear ih
        induction l with
        | nil => simp [Lib.indexByte]
        | cons b l ih =>
          simp only [Lib.indexByte]
          repeat' split
          all_goals first | omega | (rename_i h; omega)
      by_cases h2 : Lib.indexByte l c = -1
      · have := ih.1 h2
        simp [h2, this, Ne.symm h]
      · have h3 : c ∈ l := Classical.byContradiction fun hc => h2 (ih.2 hc)
        have : (Lib.indexByte l c == -1) = false := beq_eq_false_iff_ne.2 h2
        simp only [this, h3]
        simp
        omega
theorem idx_bd (l : List UInt8) (c : UInt8) : -1 ≤ Lib.indexByte l c ∧ Lib.indexByte l c < l.length := by
  induction l with
  | nil => simp [Lib.indexByte]
  | cons b l ih =>
    simp only [Lib.indexByte, List.length_cons]
    repeat' split
    all_goals omega
end Go.Proofs.YtknfhphhcnbndaaGreatDoor.Q
