/-
  The covers copied, one of them turned; what a covered directory makes of the relation. Conditions: none.
  What the reference's Do makes of a device more. Conditions: at most 1000000 nodes and entries, texts of at most 1000000 bytes.
  What the reference's Do returns: the model's change, its number, its error. Conditions: at most 1000000 nodes and entries, texts of at most 1000000 bytes; the reference's entries are the model's.
  Changes that came in as a slice; what the reference's Few returns. Conditions: at most 1000000000 changes, texts that fit.
  The model stays small: a change makes at most one entry and one link more. Conditions: none.
  The program's file system and the reference's side by side, of the same nodes: neither's change touches the other's blocks. Conditions: each fact's own.
-/
import Derived.Test.YtknfhphhcnbndaaGreatDoorKVRefDo0
import Derived.Test.YtknfhphhcnbndaaGreatDoorKVRefDo1
import Derived.Test.YtknfhphhcnbndaaGreatDoorKVRefDo2
import Derived.Test.YtknfhphhcnbndaaGreatDoorKVRefDo3
import Derived.Test.YtknfhphhcnbndaaGreatDoorKVRefDo8
import Derived.Test.YtknfhphhcnbndaaGreatDoorKVRefApp
set_option linter.unusedSimpArgs false
set_option linter.unusedVariables false
namespace Go.Proofs.YtknfhphhcnbndaaGreatDoor.V
open Go.RowKit

end Go.Proofs.YtknfhphhcnbndaaGreatDoor.V

namespace Go.Proofs.YtknfhphhcnbndaaGreatDoor.V
open Go.RowKit Go.BigFrame

end Go.Proofs.YtknfhphhcnbndaaGreatDoor.V

namespace Go.Proofs.YtknfhphhcnbndaaGreatDoor.V
open Go.RowKit

end Go.Proofs.YtknfhphhcnbndaaGreatDoor.V

namespace Go.Proofs.YtknfhphhcnbndaaGreatDoor.V
open Go.RowKit

end Go.Proofs.YtknfhphhcnbndaaGreatDoor.V

namespace Go.Proofs.YtknfhphhcnbndaaGreatDoor.V
open Go.RowKit

end Go.Proofs.YtknfhphhcnbndaaGreatDoor.V

namespace Go.Proofs.YtknfhphhcnbndaaGreatDoor.V
open Go.RowKit

theorem foot_type {h : Fsh} {w : World} (H : Fs h w) {k : Nat} (hk : h.foot k) : ∃ cur T, w.heap[k]? = some (.cells cur T (0, 0)) ∧ (T = 137 ∨ T = 135 ∨ T = 177) := by
  rcases hk with rfl | hk | ⟨x, hx, hk⟩
  · exact ⟨_, _, H.head, .inl rfl⟩
  · obtain ⟨cur, hc⟩ := owns_type H.own hk
    exact ⟨cur, _, hc, .inr (.inl rfl)⟩
  · obtain ⟨cur, hc⟩ := owns_type (H.ents x hx) hk
    exact ⟨cur, _, hc, .inr (.inr rfl)⟩
end Go.Proofs.YtknfhphhcnbndaaGreatDoor.V
