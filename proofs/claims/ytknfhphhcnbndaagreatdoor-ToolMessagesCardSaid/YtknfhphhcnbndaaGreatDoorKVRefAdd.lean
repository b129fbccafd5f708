/-
  What the reference's add makes: a node at the end of its nodes. Conditions: at most 1000000 nodes.
-/
import Derived.Test.YtknfhphhcnbndaaGreatDoorKVRefApp
import Derived.Deep.WholeRow
import Derived.Deep.MidRow
set_option linter.unusedSimpArgs false
set_option linter.unusedVariables false
namespace Go.Proofs.YtknfhphhcnbndaaGreatDoor.V
open Go.RowKit

theorem but_setRow {w : World} {b : Nat} {old : Array Value} {T : TypeId} (h : w.heap[b]? = some (.cells old T (0, 0))) (cs : Array Value) : But b w (w.setRow b cs) :=
  ⟨rfl, rfl, rfl, by rw [setRow_size]; exact Nat.le_refl _, fun k hk hn => setRow_other w b k cs hn⟩
end Go.Proofs.YtknfhphhcnbndaaGreatDoor.V
