/-
  DERIVED. GIVEN WITH THE SEED: THE CARDS: each row of YtigkdehaepenhaaDoorRows.lean that lists a variable, with what it lists TIED to the program's text (the seventh form; the later family's looks); each row that meets fmt, with fmt's text TOLD by the authors' own Lean function (tested against real Go, not proved from fmt's source: count such statements apart). THE CARD IS WHAT COUNTS. Prove the row's statement (the work); the ties are given (YtigkdehaepenhaaDoorTie.lean); close each card by the builder's one call (the guide's Derived/Test/ToyasCard.lean, 'card_holds'). Laid BY PROGRAM, IN A SANDBOX (cutbox-door.mjs). By AI agents, Wed Nov 11 2026. No macro, syntax, notation, axiom, sorry.
-/
import Derived.Test.YtigkdehaepenhaaDoorRows
import GoSem.ClaimSeven
namespace Go.Proofs.YtigkdehaepenhaaDoor
namespace Rows

/-- THE TIED CARD OF 'domesdaylaw16.FactsTable'. -/
def factsTableCard : Claim7 := { stood := { row := factsTableRow, standIns := [], harness := (true, "68676ff12e779fa760806747d544944ead38de82b0a3e31ec13d5e1c8c276862"), looks := false }, kinds := [], alts := [], laidByText := true, laidKinds := [.data, .data, .data, .data, .data, .pinned], laidTests := true, laidLooks := .later }
def FactsTableCardSaid : Prop := Claim7.holds Tryd.pinned (.plain (OpenSpec.ofChange factsTableSpec)) factsTableCard

/-- THE SECOND FORM's CARD OF 'domesdaylaw16.FactsTable'. -/
def factsTableUptoCard : Claim7 := { stood := { row := factsTableUptoRow, standIns := [], harness := (true, "68676ff12e779fa760806747d544944ead38de82b0a3e31ec13d5e1c8c276862"), looks := false }, kinds := [], alts := [], laidByText := true, laidKinds := [.data, .data, .data, .data, .data, .pinned], laidTests := true, laidLooks := .later }
def FactsTableUptoCardSaid : Prop := Claim7.holds Tryd.pinned (.plain (OpenSpec.upto factsTableSpec)) factsTableUptoCard
end Rows
end Go.Proofs.YtigkdehaepenhaaDoor
