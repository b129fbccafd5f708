/-
  DERIVED. GIVEN WITH THE SEED: THE CARDS: each row of YtjdcoaiklpkedaaDoorRows.lean that lists a variable, with what it lists TIED to the program's text (the seventh form; the later family's looks); each row that meets fmt, with fmt's text TOLD by the authors' own Lean function (tested against real Go, not proved from fmt's source: count such statements apart). THE CARD IS WHAT COUNTS. Prove the row's statement (the work); the ties are given (YtjdcoaiklpkedaaDoorTie.lean); close each card by the builder's one call (the guide's Derived/Test/ToyasCard.lean, 'card_holds'). Laid BY PROGRAM, IN A SANDBOX (cutbox-door.mjs). By AI agents, Wed Nov 11 2026. No macro, syntax, notation, axiom, sorry.
-/
import Derived.Test.YtjdcoaiklpkedaaDoorRows
import GoSem.ClaimSeven
namespace Go.Proofs.YtjdcoaiklpkedaaDoor
namespace Rows

/-- THE TIED CARD OF 'domesdaylaw09.RealFixed'. -/
def realFixedCard : Claim7 := { stood := { row := realFixedRow, standIns := [], harness := (true, "3c5d4681c012ab1d93364ef1f969cb2f02b5452d4a20a41037b24de8be1a971a"), looks := false }, kinds := [], alts := [], laidByText := true, laidKinds := [.data], laidTests := true, laidLooks := .later }
def RealFixedCardSaid : Prop := Claim7.holds Tryd.pinned (.plain (OpenSpec.ofChange realFixedSpec)) realFixedCard

/-- THE SECOND FORM's CARD OF 'domesdaylaw09.RealFixed'. -/
def realFixedUptoCard : Claim7 := { stood := { row := realFixedUptoRow, standIns := [], harness := (true, "3c5d4681c012ab1d93364ef1f969cb2f02b5452d4a20a41037b24de8be1a971a"), looks := false }, kinds := [], alts := [], laidByText := true, laidKinds := [.data], laidTests := true, laidLooks := .later }
def RealFixedUptoCardSaid : Prop := Claim7.holds Tryd.pinned (.plain (OpenSpec.upto realFixedSpec)) realFixedUptoCard
end Rows
end Go.Proofs.YtjdcoaiklpkedaaDoor
