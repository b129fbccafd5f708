/-
  DERIVED. GIVEN WITH THE SEED: THE CARDS: each row of YtigkdehaepenhaaGreatDoorRows.lean that lists a variable, with what it lists TIED to the program's text (the seventh form; the later family's looks); each row that meets fmt, with fmt's text TOLD by the authors' own Lean function (tested against real Go, not proved from fmt's source: count such statements apart). THE CARD IS WHAT COUNTS. Prove the row's statement (the work); the ties are given (YtigkdehaepenhaaGreatDoorTie.lean); close each card by the builder's one call (the guide's Derived/Test/ToyasCard.lean, 'card_holds'). Laid BY PROGRAM, IN A SANDBOX (cutbox-door.mjs). By AI agents, Wed Nov 11 2026. No macro, syntax, notation, axiom, sorry.
-/
import Derived.Test.YtigkdehaepenhaaGreatDoorRows
import GoSem.ClaimSeven
namespace Go.Proofs.YtigkdehaepenhaaGreatDoor
namespace Rows

/-- THE TIED CARD OF 'domesdaylaw16.FactsJoins'. -/
def factsJoinsCard : Claim7 := { stood := { row := factsJoinsRow, standIns := [], harness := (true, "13488ef12a69cb4c560bbb70eab397adbc3ec135747bfac7e127ce1a937d09d2"), looks := false }, kinds := [], alts := [], laidByText := true, laidKinds := [.data, .data, .data, .data, .data, .pinned], laidTests := true, laidLooks := .later }
def FactsJoinsCardSaid : Prop := Claim7.holds Tryz.pinned (.plain (OpenSpec.ofChange factsJoinsSpec)) factsJoinsCard

/-- THE TIED CARD OF 'domesdaylaw16.FactsFormats'. -/
def factsFormatsCard : Claim7 := { stood := { row := factsFormatsRow, standIns := [], harness := (true, "13488ef12a69cb4c560bbb70eab397adbc3ec135747bfac7e127ce1a937d09d2"), looks := false }, kinds := [], alts := [], laidByText := true, laidKinds := [.data, .data, .data, .data, .data, .pinned], laidTests := true, laidLooks := .later }
def FactsFormatsCardSaid : Prop := Claim7.holds Tryz.pinned (.plain (OpenSpec.ofChange factsFormatsSpec)) factsFormatsCard

/-- THE TIED CARD OF 'domesdaylaw16.FactsRows'. -/
def factsRowsCard : Claim7 := { stood := { row := factsRowsRow, standIns := [], harness := (true, "13488ef12a69cb4c560bbb70eab397adbc3ec135747bfac7e127ce1a937d09d2"), looks := false }, kinds := [], alts := [], laidByText := true, laidKinds := [.data, .data, .data, .data, .data, .pinned], laidTests := true, laidLooks := .later }
def FactsRowsCardSaid : Prop := Claim7.holds Tryz.pinned (.plain (OpenSpec.ofChange factsRowsSpec)) factsRowsCard

/-- THE SECOND FORM's CARD OF 'domesdaylaw16.FactsJoins'. -/
def factsJoinsUptoCard : Claim7 := { stood := { row := factsJoinsUptoRow, standIns := [], harness := (true, "13488ef12a69cb4c560bbb70eab397adbc3ec135747bfac7e127ce1a937d09d2"), looks := false }, kinds := [], alts := [], laidByText := true, laidKinds := [.data, .data, .data, .data, .data, .pinned], laidTests := true, laidLooks := .later }
def FactsJoinsUptoCardSaid : Prop := Claim7.holds Tryz.pinned (.plain (OpenSpec.upto factsJoinsSpec)) factsJoinsUptoCard

/-- THE SECOND FORM's CARD OF 'domesdaylaw16.FactsFormats'. -/
def factsFormatsUptoCard : Claim7 := { stood := { row := factsFormatsUptoRow, standIns := [], harness := (true, "13488ef12a69cb4c560bbb70eab397adbc3ec135747bfac7e127ce1a937d09d2"), looks := false }, kinds := [], alts := [], laidByText := true, laidKinds := [.data, .data, .data, .data, .data, .pinned], laidTests := true, laidLooks := .later }
def FactsFormatsUptoCardSaid : Prop := Claim7.holds Tryz.pinned (.plain (OpenSpec.upto factsFormatsSpec)) factsFormatsUptoCard

/-- THE SECOND FORM's CARD OF 'domesdaylaw16.FactsRows'. -/
def factsRowsUptoCard : Claim7 := { stood := { row := factsRowsUptoRow, standIns := [], harness := (true, "13488ef12a69cb4c560bbb70eab397adbc3ec135747bfac7e127ce1a937d09d2"), looks := false }, kinds := [], alts := [], laidByText := true, laidKinds := [.data, .data, .data, .data, .data, .pinned], laidTests := true, laidLooks := .later }
def FactsRowsUptoCardSaid : Prop := Claim7.holds Tryz.pinned (.plain (OpenSpec.upto factsRowsSpec)) factsRowsUptoCard
end Rows
end Go.Proofs.YtigkdehaepenhaaGreatDoor
