/-
  A row read whole in a region that draws its order and only reads. Conditions: each fact's own.
-/
import Derived.Test.YtcjbnjoomgagjaaGreatDoorKGArg
import Derived.Deep.MidRow
import Derived.BigQuiet
set_option linter.unusedVariables false
namespace Go.Proofs.YtcjbnjoomgagjaaGreatDoor.G
open Go.RowKit

theorem quiet_load_mid {P : Program} {C : World → Prop} {K : Act → Prop} {o : Oper} {a : Act} (ty : TypeId) (x : Operand) (ho : o.op = .load ty x) (b off : Nat) (hx : a.eval x = .pointer (some ⟨b, off, none⟩)) (cs : List Value) (d : TypeDesc) (hc : ∀ w, C w → w.rangeAt b off cs)
    (hu : P.underlying ty = some d) (hd : d.isRow = true) (hi : (P.info? ty).map (·.size) = some cs.length) (h : K (a.put o.dst (.agg cs.toArray))) : o.quiet P a C K :=
  ⟨_, fun w hw => by
    unfold Oper.quietAt execOp
    simp only [ho, hx, Instr.loadAt, Instr.sureAddr, Sem.run_bind, Sem.run_pure, Result.andThen_ok, run_loadVar_mid w b off ty cs d (hc w hw) hu hd hi]
    exact ⟨rfl, rfl⟩, h⟩
theorem range_vis {w : World} {A : List Vis} {g cap j : Nat} {x : Vis} (h : w.ownsRow 0 42 7 (.slice (some ⟨g, 0, none⟩) A.length cap) A.length (rowsC visC A)) (hx : A[j]? = some x) : w.rangeAt g (j * 7) (visC x) := fun k u hu => by
  have hk : k < 7 := by
    have := (List.getElem?_eq_some_iff.1 hu).1
    exact this
  exact B.owns_cell h ((rowsC_get visC_len _ _ k _ hx hk).trans hu)
theorem sizeVis' : (Tryz.prog.info? 42).map (·.size) = some 7 := by kernel_rfl
end Go.Proofs.YtcjbnjoomgagjaaGreatDoor.G
