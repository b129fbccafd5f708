/-
  DERIVED. GIVEN WITH THE SEED: THE CARDS: each row of YtcjbnjoomgagjaaGreatDoorRows.lean that lists a variable, with what it lists TIED to the program's text (the seventh form; the later family's looks); each row that meets fmt, with fmt's text TOLD by the authors' own Lean function (tested against real Go, not proved from fmt's source: count such statements apart). THE CARD IS WHAT COUNTS. Prove the row's statement (the work); the ties are given (YtcjbnjoomgagjaaGreatDoorTie.lean); close each card by the builder's one call (the guide's Derived/Test/ToyasCard.lean, 'card_holds'). Laid BY PROGRAM, IN A SANDBOX (cutbox-door.mjs). By AI agents, Wed Nov 11 2026. No macro, syntax, notation, axiom, sorry.
-/
import Derived.Test.YtcjbnjoomgagjaaGreatDoorRows
import GoSem.ClaimSeven
namespace Go.Proofs.YtcjbnjoomgagjaaGreatDoor
namespace Rows

/-- THE TIED CARD OF 'domesdaylaw12.RoamDepth'. -/
def roamDepthCard : Claim7 := { stood := { row := roamDepthRow, standIns := [], harness := (true, "f5c9398e505e016d8b91b5ac6afff4a45777e608fbd0052e47f19204c79f9c0b"), looks := false }, kinds := [], alts := [], laidByText := true, laidKinds := [.data, .data, .pinned], laidTests := true, laidLooks := .later }
def RoamDepthCardSaid : Prop := Claim7.holds Tryz.pinned (.plain (OpenSpec.ofChange roamDepthSpec)) roamDepthCard

/-- THE TIED CARD OF 'domesdaylaw12.RoamShows'. -/
def roamShowsCard : Claim7 := { stood := { row := roamShowsRow, standIns := [], harness := (true, "f5c9398e505e016d8b91b5ac6afff4a45777e608fbd0052e47f19204c79f9c0b"), looks := false }, kinds := [], alts := [], laidByText := true, laidKinds := [.data, .data, .pinned], laidTests := true, laidLooks := .later }
def RoamShowsCardSaid : Prop := Claim7.holds Tryz.pinned (.plain (OpenSpec.ofChange roamShowsSpec)) roamShowsCard

/-- THE TIED CARD OF 'domesdaylaw12.RoamWalks'. -/
def roamWalksCard : Claim7 := { stood := { row := roamWalksRow, standIns := [], harness := (true, "f5c9398e505e016d8b91b5ac6afff4a45777e608fbd0052e47f19204c79f9c0b"), looks := false }, kinds := [], alts := [], laidByText := true, laidKinds := [.data, .data, .pinned], laidTests := true, laidLooks := .later }
def RoamWalksCardSaid : Prop := Claim7.holds Tryz.pinned (.plain (OpenSpec.ofChange roamWalksSpec)) roamWalksCard

/-- THE TIED CARD OF 'domesdaylaw12.RoamOver'. -/
def roamOverCard : Claim7 := { stood := { row := roamOverRow, standIns := [], harness := (true, "f5c9398e505e016d8b91b5ac6afff4a45777e608fbd0052e47f19204c79f9c0b"), looks := false }, kinds := [], alts := [], laidByText := true, laidKinds := [.data, .data, .pinned], laidTests := true, laidLooks := .later }
def RoamOverCardSaid : Prop := Claim7.holds Tryz.pinned (.plain (OpenSpec.ofChange roamOverSpec)) roamOverCard

/-- THE SECOND FORM's CARD OF 'domesdaylaw12.RoamDepth'. -/
def roamDepthUptoCard : Claim7 := { stood := { row := roamDepthUptoRow, standIns := [], harness := (true, "f5c9398e505e016d8b91b5ac6afff4a45777e608fbd0052e47f19204c79f9c0b"), looks := false }, kinds := [], alts := [], laidByText := true, laidKinds := [.data, .data, .pinned], laidTests := true, laidLooks := .later }
def RoamDepthUptoCardSaid : Prop := Claim7.holds Tryz.pinned (.plain (OpenSpec.upto roamDepthSpec)) roamDepthUptoCard

/-- THE SECOND FORM's CARD OF 'domesdaylaw12.RoamShows'. -/
def roamShowsUptoCard : Claim7 := { stood := { row := roamShowsUptoRow, standIns := [], harness := (true, "f5c9398e505e016d8b91b5ac6afff4a45777e608fbd0052e47f19204c79f9c0b"), looks := false }, kinds := [], alts := [], laidByText := true, laidKinds := [.data, .data, .pinned], laidTests := true, laidLooks := .later }
def RoamShowsUptoCardSaid : Prop := Claim7.holds Tryz.pinned (.plain (OpenSpec.upto roamShowsSpec)) roamShowsUptoCard

/-- THE SECOND FORM's CARD OF 'domesdaylaw12.RoamWalks'. -/
def roamWalksUptoCard : Claim7 := { stood := { row := roamWalksUptoRow, standIns := [], harness := (true, "f5c9398e505e016d8b91b5ac6afff4a45777e608fbd0052e47f19204c79f9c0b"), looks := false }, kinds := [], alts := [], laidByText := true, laidKinds := [.data, .data, .pinned], laidTests := true, laidLooks := .later }
def RoamWalksUptoCardSaid : Prop := Claim7.holds Tryz.pinned (.plain (OpenSpec.upto roamWalksSpec)) roamWalksUptoCard

/-- THE SECOND FORM's CARD OF 'domesdaylaw12.RoamOver'. -/
def roamOverUptoCard : Claim7 := { stood := { row := roamOverUptoRow, standIns := [], harness := (true, "f5c9398e505e016d8b91b5ac6afff4a45777e608fbd0052e47f19204c79f9c0b"), looks := false }, kinds := [], alts := [], laidByText := true, laidKinds := [.data, .data, .pinned], laidTests := true, laidLooks := .later }
def RoamOverUptoCardSaid : Prop := Claim7.holds Tryz.pinned (.plain (OpenSpec.upto roamOverSpec)) roamOverUptoCard
end Rows
end Go.Proofs.YtcjbnjoomgagjaaGreatDoor
