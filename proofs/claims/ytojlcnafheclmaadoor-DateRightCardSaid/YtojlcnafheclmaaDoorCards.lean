/-
  DERIVED. GIVEN WITH THE SEED: THE CARDS: each row of YtojlcnafheclmaaDoorRows.lean that lists a variable, with what it lists TIED to the program's text (the seventh form; the later family's looks); each row that meets fmt, with fmt's text TOLD by the authors' own Lean function (tested against real Go, not proved from fmt's source: count such statements apart). THE CARD IS WHAT COUNTS. Prove the row's statement (the work); the ties are given (YtojlcnafheclmaaDoorTie.lean); close each card by the builder's one call (the guide's Derived/Test/ToyasCard.lean, 'card_holds'). Laid BY PROGRAM, IN A SANDBOX (cutbox-door.mjs). By AI agents, Wed Nov 11 2026. No macro, syntax, notation, axiom, sorry.
-/
import Derived.Test.YtojlcnafheclmaaDoorRows
import GoSem.ClaimSeven
namespace Go.Proofs.YtojlcnafheclmaaDoor
namespace Rows

/-- THE TIED CARD OF 'domesdaylaw04.DateOf'. -/
def dateOfCard : Claim7 := { stood := { row := dateOfRow, standIns := [], harness := (true, "fb1ff581a1c07c0b264f3ca16161b8952bf0ca90af1bfff7cb573089ceb3b66d"), looks := false }, kinds := [], alts := [], laidByText := true, laidKinds := [.data], laidTests := true, laidLooks := .later }
def DateOfCardSaid : Prop := Claim7.holds Tryd.pinned (.plain (OpenSpec.ofChange dateOfSpec)) dateOfCard

/-- THE TIED CARD OF 'domesdaylaw04.DateMonths'. -/
def dateMonthsCard : Claim7 := { stood := { row := dateMonthsRow, standIns := [], harness := (true, "fb1ff581a1c07c0b264f3ca16161b8952bf0ca90af1bfff7cb573089ceb3b66d"), looks := false }, kinds := [], alts := [], laidByText := true, laidKinds := [.data], laidTests := true, laidLooks := .later }
def DateMonthsCardSaid : Prop := Claim7.holds Tryd.pinned (.plain (OpenSpec.ofChange dateMonthsSpec)) dateMonthsCard

/-- THE TIED CARD OF 'domesdaylaw04.DateRight'. -/
def dateRightCard : Claim7 := { stood := { row := dateRightRow, standIns := [], harness := (true, "fb1ff581a1c07c0b264f3ca16161b8952bf0ca90af1bfff7cb573089ceb3b66d"), looks := false }, kinds := [], alts := [], laidByText := true, laidKinds := [.data], laidTests := true, laidLooks := .later }
def DateRightCardSaid : Prop := Claim7.holds Tryd.pinned (.plain (OpenSpec.ofChange dateRightSpec)) dateRightCard

/-- THE TIED CARD OF 'domesdaylaw04.DateNext'. -/
def dateNextCard : Claim7 := { stood := { row := dateNextRow, standIns := [], harness := (true, "fb1ff581a1c07c0b264f3ca16161b8952bf0ca90af1bfff7cb573089ceb3b66d"), looks := false }, kinds := [], alts := [], laidByText := true, laidKinds := [.data], laidTests := true, laidLooks := .later }
def DateNextCardSaid : Prop := Claim7.holds Tryd.pinned (.plain (OpenSpec.ofChange dateNextSpec)) dateNextCard

/-- THE TIED CARD OF 'domesdaylaw04.DateCycles'. -/
def dateCyclesCard : Claim7 := { stood := { row := dateCyclesRow, standIns := [], harness := (true, "fb1ff581a1c07c0b264f3ca16161b8952bf0ca90af1bfff7cb573089ceb3b66d"), looks := false }, kinds := [], alts := [], laidByText := true, laidKinds := [.data], laidTests := true, laidLooks := .later }
def DateCyclesCardSaid : Prop := Claim7.holds Tryd.pinned (.plain (OpenSpec.ofChange dateCyclesSpec)) dateCyclesCard

/-- THE SECOND FORM's CARD OF 'domesdaylaw04.DateOf'. -/
def dateOfUptoCard : Claim7 := { stood := { row := dateOfUptoRow, standIns := [], harness := (true, "fb1ff581a1c07c0b264f3ca16161b8952bf0ca90af1bfff7cb573089ceb3b66d"), looks := false }, kinds := [], alts := [], laidByText := true, laidKinds := [.data], laidTests := true, laidLooks := .later }
def DateOfUptoCardSaid : Prop := Claim7.holds Tryd.pinned (.plain (OpenSpec.upto dateOfSpec)) dateOfUptoCard

/-- THE SECOND FORM's CARD OF 'domesdaylaw04.DateMonths'. -/
def dateMonthsUptoCard : Claim7 := { stood := { row := dateMonthsUptoRow, standIns := [], harness := (true, "fb1ff581a1c07c0b264f3ca16161b8952bf0ca90af1bfff7cb573089ceb3b66d"), looks := false }, kinds := [], alts := [], laidByText := true, laidKinds := [.data], laidTests := true, laidLooks := .later }
def DateMonthsUptoCardSaid : Prop := Claim7.holds Tryd.pinned (.plain (OpenSpec.upto dateMonthsSpec)) dateMonthsUptoCard

/-- THE SECOND FORM's CARD OF 'domesdaylaw04.DateRight'. -/
def dateRightUptoCard : Claim7 := { stood := { row := dateRightUptoRow, standIns := [], harness := (true, "fb1ff581a1c07c0b264f3ca16161b8952bf0ca90af1bfff7cb573089ceb3b66d"), looks := false }, kinds := [], alts := [], laidByText := true, laidKinds := [.data], laidTests := true, laidLooks := .later }
def DateRightUptoCardSaid : Prop := Claim7.holds Tryd.pinned (.plain (OpenSpec.upto dateRightSpec)) dateRightUptoCard

/-- THE SECOND FORM's CARD OF 'domesdaylaw04.DateNext'. -/
def dateNextUptoCard : Claim7 := { stood := { row := dateNextUptoRow, standIns := [], harness := (true, "fb1ff581a1c07c0b264f3ca16161b8952bf0ca90af1bfff7cb573089ceb3b66d"), looks := false }, kinds := [], alts := [], laidByText := true, laidKinds := [.data], laidTests := true, laidLooks := .later }
def DateNextUptoCardSaid : Prop := Claim7.holds Tryd.pinned (.plain (OpenSpec.upto dateNextSpec)) dateNextUptoCard

/-- THE SECOND FORM's CARD OF 'domesdaylaw04.DateCycles'. -/
def dateCyclesUptoCard : Claim7 := { stood := { row := dateCyclesUptoRow, standIns := [], harness := (true, "fb1ff581a1c07c0b264f3ca16161b8952bf0ca90af1bfff7cb573089ceb3b66d"), looks := false }, kinds := [], alts := [], laidByText := true, laidKinds := [.data], laidTests := true, laidLooks := .later }
def DateCyclesUptoCardSaid : Prop := Claim7.holds Tryd.pinned (.plain (OpenSpec.upto dateCyclesSpec)) dateCyclesUptoCard
end Rows
end Go.Proofs.YtojlcnafheclmaaDoor
