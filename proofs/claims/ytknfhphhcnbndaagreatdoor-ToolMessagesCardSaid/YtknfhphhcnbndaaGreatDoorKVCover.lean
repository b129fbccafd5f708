/-
  What FS.Devices returns: the numbers of the devices' first nodes, in order. Conditions: at most 1000000 nodes.
  What FS.cover makes: a device's first, and that it covers a directory. Conditions: at most 1000000 nodes.
-/
import Derived.Test.YtknfhphhcnbndaaGreatDoorKVAdd
import Derived.OwnWalk
import Derived.Test.YtknfhphhcnbndaaGreatDoorKVEnter
set_option linter.unusedVariables false
set_option linter.unusedSimpArgs false
namespace Go.Proofs.YtknfhphhcnbndaaGreatDoor.V
open Go.RowKit

def devL : List Nd → Nat → List Int
  | [], _ => []
  | n :: r, k => (if n.ino = 1 then [(k : Int)] else []) ++ devL r (k + 1)
def ints (l : List Int) : List Value := l.map (Value.int .i64)

end Go.Proofs.YtknfhphhcnbndaaGreatDoor.V

namespace Go.Proofs.YtknfhphhcnbndaaGreatDoor.V
open Go.RowKit

theorem owns_form {w : World} {base : Nat} {e : TypeId} {size n : Nat} {v : Value} {xs : List Value} (h : w.ownsRow base e size v n xs) : ∃ ao cap, v = .slice ao n cap := by
  rcases h.2 with ⟨e, e2⟩ | ⟨g, cap, cur, e, _⟩
  · exact ⟨none, 0, by rw [e, e2]⟩
  · exact ⟨_, cap, e⟩
end Go.Proofs.YtknfhphhcnbndaaGreatDoor.V
