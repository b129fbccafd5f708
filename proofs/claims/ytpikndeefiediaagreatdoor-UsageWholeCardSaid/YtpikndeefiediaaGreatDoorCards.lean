/-
  DERIVED. GIVEN WITH THE SEED: THE CARDS: each row of YtpikndeefiediaaGreatDoorRows.lean that lists a variable, with what it lists TIED to the program's text (the seventh form; the later family's looks); each row that meets fmt, with fmt's text TOLD by the authors' own Lean function (tested against real Go, not proved from fmt's source: count such statements apart). THE CARD IS WHAT COUNTS. Prove the row's statement (the work); the ties are given (YtpikndeefiediaaGreatDoorTie.lean); close each card by the builder's one call (the guide's Derived/Test/ToyasCard.lean, 'card_holds'). Laid BY PROGRAM, IN A SANDBOX (cutbox-door.mjs). By AI agents, Wed Nov 11 2026. No macro, syntax, notation, axiom, sorry.
-/
import Derived.Test.YtpikndeefiediaaGreatDoorRows
import GoSem.ClaimSeven
namespace Go.Proofs.YtpikndeefiediaaGreatDoor
namespace Rows

/-- THE TIED CARD OF 'domesdaylaw14.UsageWhole'. -/
def usageWholeCard : Claim7 := { stood := { row := usageWholeRow, standIns := [], harness := (true, "56f57fcd53ef968e1e25dd17985a4685674ac98bd042fd8ef0664865a44edc4b"), looks := false }, kinds := [], alts := [], laidByText := true, laidKinds := [.data, .data, .pinned], laidTests := true, laidLooks := .later }
def UsageWholeCardSaid : Prop := Claim7.holds Tryz.pinned (.plain (OpenSpec.ofChange usageWholeSpec)) usageWholeCard

/-- THE SECOND FORM's CARD OF 'domesdaylaw14.UsageWhole'. -/
def usageWholeUptoCard : Claim7 := { stood := { row := usageWholeUptoRow, standIns := [], harness := (true, "56f57fcd53ef968e1e25dd17985a4685674ac98bd042fd8ef0664865a44edc4b"), looks := false }, kinds := [], alts := [], laidByText := true, laidKinds := [.data, .data, .pinned], laidTests := true, laidLooks := .later }
def UsageWholeUptoCardSaid : Prop := Claim7.holds Tryz.pinned (.plain (OpenSpec.upto usageWholeSpec)) usageWholeUptoCard
end Rows
end Go.Proofs.YtpikndeefiediaaGreatDoor
