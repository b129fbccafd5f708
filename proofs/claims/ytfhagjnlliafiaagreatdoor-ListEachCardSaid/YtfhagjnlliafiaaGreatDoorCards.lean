/-
  DERIVED. GIVEN WITH THE SEED: THE CARDS: each row of YtfhagjnlliafiaaGreatDoorRows.lean that lists a variable, with what it lists TIED to the program's text (the seventh form; the later family's looks); each row that meets fmt, with fmt's text TOLD by the authors' own Lean function (tested against real Go, not proved from fmt's source: count such statements apart). THE CARD IS WHAT COUNTS. Prove the row's statement (the work); the ties are given (YtfhagjnlliafiaaGreatDoorTie.lean); close each card by the builder's one call (the guide's Derived/Test/ToyasCard.lean, 'card_holds'). Laid BY PROGRAM, IN A SANDBOX (cutbox-door.mjs). By AI agents, Wed Nov 11 2026. No macro, syntax, notation, axiom, sorry.
-/
import Derived.Test.YtfhagjnlliafiaaGreatDoorRows
import GoSem.ClaimSeven
namespace Go.Proofs.YtfhagjnlliafiaaGreatDoor
namespace Rows

/-- THE TIED CARD OF 'domesdaylaw15.ListSorts'. -/
def listSortsCard : Claim7 := { stood := { row := listSortsRow, standIns := [], harness := (true, "ae6e3e45a13f8c33ff61a199c01046528c990d2852091d60b13276df29592836"), looks := false }, kinds := [], alts := [], laidByText := true, laidKinds := [.data, .data, .data, .data, .data, .data, .data, .data, .data, .pinned], laidTests := true, laidLooks := .later }
def ListSortsCardSaid : Prop := Claim7.holds Tryz.pinned (.plain (OpenSpec.ofChange listSortsSpec)) listSortsCard

/-- THE TIED CARD OF 'domesdaylaw15.ListEach'. -/
def listEachCard : Claim7 := { stood := { row := listEachRow, standIns := [], harness := (true, "ae6e3e45a13f8c33ff61a199c01046528c990d2852091d60b13276df29592836"), looks := false }, kinds := [], alts := [], laidByText := true, laidKinds := [.data, .data, .data, .data, .data, .data, .data, .data, .data, .pinned], laidTests := true, laidLooks := .later }
def ListEachCardSaid : Prop := Claim7.holds Tryz.pinned (.plain (OpenSpec.ofChange listEachSpec)) listEachCard

/-- THE SECOND FORM's CARD OF 'domesdaylaw15.ListSorts'. -/
def listSortsUptoCard : Claim7 := { stood := { row := listSortsUptoRow, standIns := [], harness := (true, "ae6e3e45a13f8c33ff61a199c01046528c990d2852091d60b13276df29592836"), looks := false }, kinds := [], alts := [], laidByText := true, laidKinds := [.data, .data, .data, .data, .data, .data, .data, .data, .data, .pinned], laidTests := true, laidLooks := .later }
def ListSortsUptoCardSaid : Prop := Claim7.holds Tryz.pinned (.plain (OpenSpec.upto listSortsSpec)) listSortsUptoCard

/-- THE SECOND FORM's CARD OF 'domesdaylaw15.ListEach'. -/
def listEachUptoCard : Claim7 := { stood := { row := listEachUptoRow, standIns := [], harness := (true, "ae6e3e45a13f8c33ff61a199c01046528c990d2852091d60b13276df29592836"), looks := false }, kinds := [], alts := [], laidByText := true, laidKinds := [.data, .data, .data, .data, .data, .data, .data, .data, .data, .pinned], laidTests := true, laidLooks := .later }
def ListEachUptoCardSaid : Prop := Claim7.holds Tryz.pinned (.plain (OpenSpec.upto listEachSpec)) listEachUptoCard
end Rows
end Go.Proofs.YtfhagjnlliafiaaGreatDoor
