/-
  DERIVED. GIVEN WITH THE SEED: THE CARDS: each row of YtgnlbmpejkdoiaaDoorRows.lean that lists a variable, with what it lists TIED to the program's text (the seventh form; the later family's looks); each row that meets fmt, with fmt's text TOLD by the authors' own Lean function (tested against real Go, not proved from fmt's source: count such statements apart). THE CARD IS WHAT COUNTS. Prove the row's statement (the work); the ties are given (YtgnlbmpejkdoiaaDoorTie.lean); close each card by the builder's one call (the guide's Derived/Test/ToyasCard.lean, 'card_holds'). Laid BY PROGRAM, IN A SANDBOX (cutbox-door.mjs). By AI agents, Wed Nov 11 2026. No macro, syntax, notation, axiom, sorry.
-/
import Derived.Test.YtgnlbmpejkdoiaaDoorRows
import GoSem.ClaimSeven
namespace Go.Proofs.YtgnlbmpejkdoiaaDoor
namespace Rows

/-- THE TIED CARD OF 'domesdaylaw07.PermMay'. -/
def permMayCard : Claim7 := { stood := { row := permMayRow, standIns := [], harness := (true, "b48351e8f39e82f26fce4a8d800cca532be05266da28e1b7395d5c3e0e0780c8"), looks := false }, kinds := [], alts := [], laidByText := true, laidKinds := [.data], laidTests := true, laidLooks := .later }
def PermMayCardSaid : Prop := Claim7.holds Tryd.pinned (.plain (OpenSpec.ofChange permMaySpec)) permMayCard

/-- THE TIED CARD OF 'domesdaylaw07.PermTexts'. -/
def permTextsCard : Claim7 := { stood := { row := permTextsRow, standIns := [], harness := (true, "b48351e8f39e82f26fce4a8d800cca532be05266da28e1b7395d5c3e0e0780c8"), looks := false }, kinds := [], alts := [], laidByText := true, laidKinds := [.data], laidTests := true, laidLooks := .later }
def PermTextsCardSaid : Prop := Claim7.holds Tryd.pinned (.plain (OpenSpec.ofChange permTextsSpec)) permTextsCard

/-- THE TIED CARD OF 'domesdaylaw07.PermEach'. -/
def permEachCard : Claim7 := { stood := { row := permEachRow, standIns := [], harness := (true, "b48351e8f39e82f26fce4a8d800cca532be05266da28e1b7395d5c3e0e0780c8"), looks := false }, kinds := [], alts := [], laidByText := true, laidKinds := [.data], laidTests := true, laidLooks := .later }
def PermEachCardSaid : Prop := Claim7.holds Tryd.pinned (.plain (OpenSpec.ofChange permEachSpec)) permEachCard

/-- THE SECOND FORM's CARD OF 'domesdaylaw07.PermMay'. -/
def permMayUptoCard : Claim7 := { stood := { row := permMayUptoRow, standIns := [], harness := (true, "b48351e8f39e82f26fce4a8d800cca532be05266da28e1b7395d5c3e0e0780c8"), looks := false }, kinds := [], alts := [], laidByText := true, laidKinds := [.data], laidTests := true, laidLooks := .later }
def PermMayUptoCardSaid : Prop := Claim7.holds Tryd.pinned (.plain (OpenSpec.upto permMaySpec)) permMayUptoCard

/-- THE SECOND FORM's CARD OF 'domesdaylaw07.PermTexts'. -/
def permTextsUptoCard : Claim7 := { stood := { row := permTextsUptoRow, standIns := [], harness := (true, "b48351e8f39e82f26fce4a8d800cca532be05266da28e1b7395d5c3e0e0780c8"), looks := false }, kinds := [], alts := [], laidByText := true, laidKinds := [.data], laidTests := true, laidLooks := .later }
def PermTextsUptoCardSaid : Prop := Claim7.holds Tryd.pinned (.plain (OpenSpec.upto permTextsSpec)) permTextsUptoCard

/-- THE SECOND FORM's CARD OF 'domesdaylaw07.PermEach'. -/
def permEachUptoCard : Claim7 := { stood := { row := permEachUptoRow, standIns := [], harness := (true, "b48351e8f39e82f26fce4a8d800cca532be05266da28e1b7395d5c3e0e0780c8"), looks := false }, kinds := [], alts := [], laidByText := true, laidKinds := [.data], laidTests := true, laidLooks := .later }
def PermEachUptoCardSaid : Prop := Claim7.holds Tryd.pinned (.plain (OpenSpec.upto permEachSpec)) permEachUptoCard
end Rows
end Go.Proofs.YtgnlbmpejkdoiaaDoor
