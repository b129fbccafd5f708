/-
  What the reference's Good returns; that the law VfsNames returns true. Conditions: none.
  What the reference's New makes: one first directory. No conditions.
  What the reference's wrong looks at: its own box, the change's box, the six slices. Conditions: each fact's own.
  What the reference's wrong leans on. Conditions: at most 1000000 nodes and entries, texts of at most 1000000 bytes.
-/
import Derived.Test.YtknfhphhcnbndaaGreatDoorKVRefApp
import Derived.Test.YtknfhphhcnbndaaGreatDoorKVRefDev
import Derived.Deep.CutRange
import Derived.Deep.DeepCutAuto
set_option linter.unusedSimpArgs false
set_option linter.unusedVariables false
namespace Go.Proofs.YtknfhphhcnbndaaGreatDoor.V
open Go.RowKit

end Go.Proofs.YtknfhphhcnbndaaGreatDoor.V

namespace Go.Proofs.YtknfhphhcnbndaaGreatDoor.V
open Go.RowKit

end Go.Proofs.YtknfhphhcnbndaaGreatDoor.V

namespace Go.Proofs.YtknfhphhcnbndaaGreatDoor.V
open Go.RowKit

/-- What the reference's slices give in a world behind w. -/
theorem Rs.at_ {M : List Nd} {L : List It} {v : Rv} {w : World} (H : Rs M L v w) (hn : 0 < M.length) :
    ∃ gn cn al cl gc cc ad cd aa ca af cf, v = ⟨.slice (some ⟨gn, 0, none⟩) M.length cn, .slice al L.length cl, .slice (some ⟨gc, 0, none⟩) M.length cc, .slice ad M.length cd, .slice aa M.length ca, .slice af (devL M 0).length cf⟩ := by
  obtain ⟨an, cn, al, cl, ac, cc, ad, cd, aa, ca, af, cf, rfl⟩ := H.forms
  obtain ⟨gn, cn', e1, _, _⟩ := owns_some H.hn hn
  obtain ⟨gc, cc', e2, _, _⟩ := owns_some H.hc hn
  simp only [Value.slice.injEq, true_and] at e1 e2
  obtain ⟨rfl, rfl⟩ := e1
  obtain ⟨rfl, rfl⟩ := e2
  exact ⟨gn, cn, al, cl, gc, cc, ad, cd, aa, ca, af, cf, rfl⟩
end Go.Proofs.YtknfhphhcnbndaaGreatDoor.V

namespace Go.Proofs.YtknfhphhcnbndaaGreatDoor.V
open Go.RowKit

end Go.Proofs.YtknfhphhcnbndaaGreatDoor.V
