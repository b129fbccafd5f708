/-
  DERIVED. GIVEN WITH THE SEED: THE CARDS: each row of YtknfhphhcnbndaaGreatDoorRows.lean that lists a variable, with what it lists TIED to the program's text (the seventh form; the later family's looks); each row that meets fmt, with fmt's text TOLD by the authors' own Lean function (tested against real Go, not proved from fmt's source: count such statements apart). THE CARD IS WHAT COUNTS. Prove the row's statement (the work); the ties are given (YtknfhphhcnbndaaGreatDoorTie.lean); close each card by the builder's one call (the guide's Derived/Test/ToyasCard.lean, 'card_holds'). Laid BY PROGRAM, IN A SANDBOX (cutbox-door.mjs). By AI agents, Wed Nov 11 2026. No macro, syntax, notation, axiom, sorry.
-/
import Derived.Test.YtknfhphhcnbndaaGreatDoorRows
import GoSem.ClaimSeven
namespace Go.Proofs.YtknfhphhcnbndaaGreatDoor
namespace Rows

/-- THE TIED CARD OF 'domesdaylaw16.FactsRows'. -/
def factsRowsCard : Claim7 := { stood := { row := factsRowsRow, standIns := [], harness := (true, "b03d683c0c49591b5ce0082265d98a800c529e5dcd0de069b95aa7c397f938e2"), looks := true }, kinds := [], alts := [], laidByText := true, laidKinds := [.data, .data, .data, .data, .data, .pinned], laidTests := true, laidLooks := .later }
def FactsRowsCardSaid : Prop := Claim7.holds Tryz.pinned (.plain (OpenSpec.ofChange factsRowsSpec)) factsRowsCard

/-- THE TIED CARD OF 'domesdaylaw17.ToolRows'. -/
def toolRowsCard : Claim7 := { stood := { row := toolRowsRow, standIns := [], harness := (true, "b03d683c0c49591b5ce0082265d98a800c529e5dcd0de069b95aa7c397f938e2"), looks := true }, kinds := [], alts := [], laidByText := true, laidKinds := [.data, .data, .data, .data, .data, .data, .sentinel, .sentinel, .data, .data, .data, .pinned], laidTests := true, laidLooks := .later }
def ToolRowsCardSaid : Prop := Claim7.holds Tryz.pinned (.plain (OpenSpec.ofChange toolRowsSpec)) toolRowsCard

/-- THE TIED CARD OF 'domesdaylaw17.ToolMessages'. -/
def toolMessagesCard : Claim7 := { stood := { row := toolMessagesRow, standIns := [], harness := (true, "b03d683c0c49591b5ce0082265d98a800c529e5dcd0de069b95aa7c397f938e2"), looks := true }, kinds := [], alts := [], laidByText := true, laidKinds := [.data, .data, .data, .data, .data, .data, .sentinel, .sentinel, .data, .data, .data, .pinned], laidTests := true, laidLooks := .later }
def ToolMessagesCardSaid : Prop := Claim7.holds Tryz.pinned (.plain (OpenSpec.ofChange toolMessagesSpec)) toolMessagesCard

/-- THE TIED CARD OF 'domesdaylaw17.ToolAsks'. -/
def toolAsksCard : Claim7 := { stood := { row := toolAsksRow, standIns := [], harness := (true, "b03d683c0c49591b5ce0082265d98a800c529e5dcd0de069b95aa7c397f938e2"), looks := true }, kinds := [], alts := [], laidByText := true, laidKinds := [.data, .data, .data, .data, .data, .data, .sentinel, .sentinel, .data, .data, .data, .pinned], laidTests := true, laidLooks := .later }
def ToolAsksCardSaid : Prop := Claim7.holds Tryz.pinned (.plain (OpenSpec.ofChange toolAsksSpec)) toolAsksCard

/-- THE TIED CARD OF 'domesdaylaw17.ToolStatus'. -/
def toolStatusCard : Claim7 := { stood := { row := toolStatusRow, standIns := [], harness := (true, "b03d683c0c49591b5ce0082265d98a800c529e5dcd0de069b95aa7c397f938e2"), looks := true }, kinds := [], alts := [], laidByText := true, laidKinds := [.data, .data, .data, .data, .data, .data, .sentinel, .sentinel, .data, .data, .data, .pinned], laidTests := true, laidLooks := .later }
def ToolStatusCardSaid : Prop := Claim7.holds Tryz.pinned (.plain (OpenSpec.ofChange toolStatusSpec)) toolStatusCard

/-- THE TIED CARD OF 'domesdaytop.TopReadOnly'. -/
def topReadOnlyCard : Claim7 := { stood := { row := topReadOnlyRow, standIns := [], harness := (true, "b03d683c0c49591b5ce0082265d98a800c529e5dcd0de069b95aa7c397f938e2"), looks := true }, kinds := [], alts := [], laidByText := true, laidKinds := [.data, .data, .data, .data, .data, .data, .sentinel, .sentinel, .data, .data, .data, .pinned], laidTests := true, laidLooks := .later }
def TopReadOnlyCardSaid : Prop := Claim7.holds Tryz.pinned (.plain (OpenSpec.ofChange topReadOnlySpec)) topReadOnlyCard

/-- THE TIED CARD OF 'domesdaytop.TopWhole'. -/
def topWholeCard : Claim7 := { stood := { row := topWholeRow, standIns := [], harness := (true, "b03d683c0c49591b5ce0082265d98a800c529e5dcd0de069b95aa7c397f938e2"), looks := true }, kinds := [], alts := [], laidByText := true, laidKinds := [.data, .data, .data, .data, .data, .data, .sentinel, .sentinel, .data, .data, .data, .pinned], laidTests := true, laidLooks := .later }
def TopWholeCardSaid : Prop := Claim7.holds Tryz.pinned (.plain (OpenSpec.ofChange topWholeSpec)) topWholeCard

/-- THE TIED CARD OF 'domesdaytop.TopEnds'. -/
def topEndsCard : Claim7 := { stood := { row := topEndsRow, standIns := [], harness := (true, "b03d683c0c49591b5ce0082265d98a800c529e5dcd0de069b95aa7c397f938e2"), looks := true }, kinds := [], alts := [], laidByText := true, laidKinds := [.data, .data, .data, .data, .data, .data, .sentinel, .sentinel, .data, .data, .data, .pinned], laidTests := true, laidLooks := .later }
def TopEndsCardSaid : Prop := Claim7.holds Tryz.pinned (.plain (OpenSpec.ofChange topEndsSpec)) topEndsCard

/-- THE TIED CARD OF 'domesdaytop.TopQuotes'. -/
def topQuotesCard : Claim7 := { stood := { row := topQuotesRow, standIns := [], harness := (true, "b03d683c0c49591b5ce0082265d98a800c529e5dcd0de069b95aa7c397f938e2"), looks := true }, kinds := [], alts := [], laidByText := true, laidKinds := [.data, .data, .data, .data, .data, .data, .sentinel, .sentinel, .data, .data, .data, .pinned], laidTests := true, laidLooks := .later }
def TopQuotesCardSaid : Prop := Claim7.holds Tryz.pinned (.plain (OpenSpec.ofChange topQuotesSpec)) topQuotesCard

/-- THE TIED CARD OF 'domesdaytop.TopGoesOn'. -/
def topGoesOnCard : Claim7 := { stood := { row := topGoesOnRow, standIns := [], harness := (true, "b03d683c0c49591b5ce0082265d98a800c529e5dcd0de069b95aa7c397f938e2"), looks := true }, kinds := [], alts := [], laidByText := true, laidKinds := [.data, .data, .data, .data, .data, .data, .sentinel, .sentinel, .data, .data, .data, .pinned], laidTests := true, laidLooks := .later }
def TopGoesOnCardSaid : Prop := Claim7.holds Tryz.pinned (.plain (OpenSpec.ofChange topGoesOnSpec)) topGoesOnCard

/-- THE SECOND FORM's CARD OF 'domesdaylaw16.FactsRows'. -/
def factsRowsUptoCard : Claim7 := { stood := { row := factsRowsUptoRow, standIns := [], harness := (true, "b03d683c0c49591b5ce0082265d98a800c529e5dcd0de069b95aa7c397f938e2"), looks := true }, kinds := [], alts := [], laidByText := true, laidKinds := [.data, .data, .data, .data, .data, .pinned], laidTests := true, laidLooks := .later }
def FactsRowsUptoCardSaid : Prop := Claim7.holds Tryz.pinned (.plain (OpenSpec.upto factsRowsSpec)) factsRowsUptoCard

/-- THE SECOND FORM's CARD OF 'domesdaylaw17.ToolRows'. -/
def toolRowsUptoCard : Claim7 := { stood := { row := toolRowsUptoRow, standIns := [], harness := (true, "b03d683c0c49591b5ce0082265d98a800c529e5dcd0de069b95aa7c397f938e2"), looks := true }, kinds := [], alts := [], laidByText := true, laidKinds := [.data, .data, .data, .data, .data, .data, .sentinel, .sentinel, .data, .data, .data, .pinned], laidTests := true, laidLooks := .later }
def ToolRowsUptoCardSaid : Prop := Claim7.holds Tryz.pinned (.plain (OpenSpec.upto toolRowsSpec)) toolRowsUptoCard

/-- THE SECOND FORM's CARD OF 'domesdaylaw17.ToolMessages'. -/
def toolMessagesUptoCard : Claim7 := { stood := { row := toolMessagesUptoRow, standIns := [], harness := (true, "b03d683c0c49591b5ce0082265d98a800c529e5dcd0de069b95aa7c397f938e2"), looks := true }, kinds := [], alts := [], laidByText := true, laidKinds := [.data, .data, .data, .data, .data, .data, .sentinel, .sentinel, .data, .data, .data, .pinned], laidTests := true, laidLooks := .later }
def ToolMessagesUptoCardSaid : Prop := Claim7.holds Tryz.pinned (.plain (OpenSpec.upto toolMessagesSpec)) toolMessagesUptoCard

/-- THE SECOND FORM's CARD OF 'domesdaylaw17.ToolAsks'. -/
def toolAsksUptoCard : Claim7 := { stood := { row := toolAsksUptoRow, standIns := [], harness := (true, "b03d683c0c49591b5ce0082265d98a800c529e5dcd0de069b95aa7c397f938e2"), looks := true }, kinds := [], alts := [], laidByText := true, laidKinds := [.data, .data, .data, .data, .data, .data, .sentinel, .sentinel, .data, .data, .data, .pinned], laidTests := true, laidLooks := .later }
def ToolAsksUptoCardSaid : Prop := Claim7.holds Tryz.pinned (.plain (OpenSpec.upto toolAsksSpec)) toolAsksUptoCard

/-- THE SECOND FORM's CARD OF 'domesdaylaw17.ToolStatus'. -/
def toolStatusUptoCard : Claim7 := { stood := { row := toolStatusUptoRow, standIns := [], harness := (true, "b03d683c0c49591b5ce0082265d98a800c529e5dcd0de069b95aa7c397f938e2"), looks := true }, kinds := [], alts := [], laidByText := true, laidKinds := [.data, .data, .data, .data, .data, .data, .sentinel, .sentinel, .data, .data, .data, .pinned], laidTests := true, laidLooks := .later }
def ToolStatusUptoCardSaid : Prop := Claim7.holds Tryz.pinned (.plain (OpenSpec.upto toolStatusSpec)) toolStatusUptoCard

/-- THE SECOND FORM's CARD OF 'domesdaytop.TopReadOnly'. -/
def topReadOnlyUptoCard : Claim7 := { stood := { row := topReadOnlyUptoRow, standIns := [], harness := (true, "b03d683c0c49591b5ce0082265d98a800c529e5dcd0de069b95aa7c397f938e2"), looks := true }, kinds := [], alts := [], laidByText := true, laidKinds := [.data, .data, .data, .data, .data, .data, .sentinel, .sentinel, .data, .data, .data, .pinned], laidTests := true, laidLooks := .later }
def TopReadOnlyUptoCardSaid : Prop := Claim7.holds Tryz.pinned (.plain (OpenSpec.upto topReadOnlySpec)) topReadOnlyUptoCard

/-- THE SECOND FORM's CARD OF 'domesdaytop.TopWhole'. -/
def topWholeUptoCard : Claim7 := { stood := { row := topWholeUptoRow, standIns := [], harness := (true, "b03d683c0c49591b5ce0082265d98a800c529e5dcd0de069b95aa7c397f938e2"), looks := true }, kinds := [], alts := [], laidByText := true, laidKinds := [.data, .data, .data, .data, .data, .data, .sentinel, .sentinel, .data, .data, .data, .pinned], laidTests := true, laidLooks := .later }
def TopWholeUptoCardSaid : Prop := Claim7.holds Tryz.pinned (.plain (OpenSpec.upto topWholeSpec)) topWholeUptoCard

/-- THE SECOND FORM's CARD OF 'domesdaytop.TopEnds'. -/
def topEndsUptoCard : Claim7 := { stood := { row := topEndsUptoRow, standIns := [], harness := (true, "b03d683c0c49591b5ce0082265d98a800c529e5dcd0de069b95aa7c397f938e2"), looks := true }, kinds := [], alts := [], laidByText := true, laidKinds := [.data, .data, .data, .data, .data, .data, .sentinel, .sentinel, .data, .data, .data, .pinned], laidTests := true, laidLooks := .later }
def TopEndsUptoCardSaid : Prop := Claim7.holds Tryz.pinned (.plain (OpenSpec.upto topEndsSpec)) topEndsUptoCard

/-- THE SECOND FORM's CARD OF 'domesdaytop.TopQuotes'. -/
def topQuotesUptoCard : Claim7 := { stood := { row := topQuotesUptoRow, standIns := [], harness := (true, "b03d683c0c49591b5ce0082265d98a800c529e5dcd0de069b95aa7c397f938e2"), looks := true }, kinds := [], alts := [], laidByText := true, laidKinds := [.data, .data, .data, .data, .data, .data, .sentinel, .sentinel, .data, .data, .data, .pinned], laidTests := true, laidLooks := .later }
def TopQuotesUptoCardSaid : Prop := Claim7.holds Tryz.pinned (.plain (OpenSpec.upto topQuotesSpec)) topQuotesUptoCard

/-- THE SECOND FORM's CARD OF 'domesdaytop.TopGoesOn'. -/
def topGoesOnUptoCard : Claim7 := { stood := { row := topGoesOnUptoRow, standIns := [], harness := (true, "b03d683c0c49591b5ce0082265d98a800c529e5dcd0de069b95aa7c397f938e2"), looks := true }, kinds := [], alts := [], laidByText := true, laidKinds := [.data, .data, .data, .data, .data, .data, .sentinel, .sentinel, .data, .data, .data, .pinned], laidTests := true, laidLooks := .later }
def TopGoesOnUptoCardSaid : Prop := Claim7.holds Tryz.pinned (.plain (OpenSpec.upto topGoesOnSpec)) topGoesOnUptoCard
end Rows
end Go.Proofs.YtknfhphhcnbndaaGreatDoor
