/-
  DERIVED. GIVEN WITH THE SEED: THE CARDS: each row of YtmjdcpcndggflaaDoorRows.lean that lists a variable, with what it lists TIED to the program's text (the seventh form; the later family's looks); each row that meets fmt, with fmt's text TOLD by the authors' own Lean function (tested against real Go, not proved from fmt's source: count such statements apart). THE CARD IS WHAT COUNTS. Prove the row's statement (the work); the ties are given (YtmjdcpcndggflaaDoorTie.lean); close each card by the builder's one call (the guide's Derived/Test/ToyasCard.lean, 'card_holds'). Laid BY PROGRAM, IN A SANDBOX (cutbox-door.mjs). By AI agents, Wed Nov 11 2026. No macro, syntax, notation, axiom, sorry.
-/
import Derived.Test.YtmjdcpcndggflaaDoorRows
import GoSem.ClaimSeven
namespace Go.Proofs.YtmjdcpcndggflaaDoor
namespace Rows

/-- THE TIED CARD OF 'roundelaylaw09.HeadPuts'. -/
def headPutsCard : Claim7 := { stood := { row := headPutsRow, standIns := [], harness := (true, "9b3216f6b6c253a4b8af7013000b453b1852a1d3fc4fcf26a5aa9a68164024ab"), looks := true }, kinds := [], alts := [], laidByText := true, laidKinds := [.wider], laidTests := true, laidLooks := .later }
def HeadPutsCardSaid : Prop := Claim7.holds Tryd.pinned (.plain (OpenSpec.ofChange headPutsSpec)) headPutsCard

/-- THE TIED CARD OF 'roundelaylaw09.HeadReads'. -/
def headReadsCard : Claim7 := { stood := { row := headReadsRow, standIns := [], harness := (true, "9b3216f6b6c253a4b8af7013000b453b1852a1d3fc4fcf26a5aa9a68164024ab"), looks := true }, kinds := [], alts := [], laidByText := true, laidKinds := [.wider], laidTests := true, laidLooks := .later }
def HeadReadsCardSaid : Prop := Claim7.holds Tryd.pinned (.plain (OpenSpec.ofChange headReadsSpec)) headReadsCard

/-- THE TIED CARD OF 'roundelaylaw09.HeadLists'. -/
def headListsCard : Claim7 := { stood := { row := headListsRow, standIns := [], harness := (true, "9b3216f6b6c253a4b8af7013000b453b1852a1d3fc4fcf26a5aa9a68164024ab"), looks := true }, kinds := [], alts := [], laidByText := true, laidKinds := [.wider], laidTests := true, laidLooks := .later }
def HeadListsCardSaid : Prop := Claim7.holds Tryd.pinned (.plain (OpenSpec.ofChange headListsSpec)) headListsCard

/-- THE TIED CARD OF 'roundelaylaw09.HeadBack'. -/
def headBackCard : Claim7 := { stood := { row := headBackRow, standIns := [], harness := (true, "9b3216f6b6c253a4b8af7013000b453b1852a1d3fc4fcf26a5aa9a68164024ab"), looks := true }, kinds := [], alts := [], laidByText := true, laidKinds := [.wider], laidTests := true, laidLooks := .later }
def HeadBackCardSaid : Prop := Claim7.holds Tryd.pinned (.plain (OpenSpec.ofChange headBackSpec)) headBackCard

/-- THE TIED CARD OF 'roundelaylaw09.HeadChains'. -/
def headChainsCard : Claim7 := { stood := { row := headChainsRow, standIns := [], harness := (true, "9b3216f6b6c253a4b8af7013000b453b1852a1d3fc4fcf26a5aa9a68164024ab"), looks := true }, kinds := [], alts := [], laidByText := true, laidKinds := [.wider], laidTests := true, laidLooks := .later }
def HeadChainsCardSaid : Prop := Claim7.holds Tryd.pinned (.plain (OpenSpec.ofChange headChainsSpec)) headChainsCard

/-- THE SECOND FORM's CARD OF 'roundelaylaw09.HeadPuts'. -/
def headPutsUptoCard : Claim7 := { stood := { row := headPutsUptoRow, standIns := [], harness := (true, "9b3216f6b6c253a4b8af7013000b453b1852a1d3fc4fcf26a5aa9a68164024ab"), looks := true }, kinds := [], alts := [], laidByText := true, laidKinds := [.wider], laidTests := true, laidLooks := .later }
def HeadPutsUptoCardSaid : Prop := Claim7.holds Tryd.pinned (.plain (OpenSpec.upto headPutsSpec)) headPutsUptoCard

/-- THE SECOND FORM's CARD OF 'roundelaylaw09.HeadReads'. -/
def headReadsUptoCard : Claim7 := { stood := { row := headReadsUptoRow, standIns := [], harness := (true, "9b3216f6b6c253a4b8af7013000b453b1852a1d3fc4fcf26a5aa9a68164024ab"), looks := true }, kinds := [], alts := [], laidByText := true, laidKinds := [.wider], laidTests := true, laidLooks := .later }
def HeadReadsUptoCardSaid : Prop := Claim7.holds Tryd.pinned (.plain (OpenSpec.upto headReadsSpec)) headReadsUptoCard

/-- THE SECOND FORM's CARD OF 'roundelaylaw09.HeadLists'. -/
def headListsUptoCard : Claim7 := { stood := { row := headListsUptoRow, standIns := [], harness := (true, "9b3216f6b6c253a4b8af7013000b453b1852a1d3fc4fcf26a5aa9a68164024ab"), looks := true }, kinds := [], alts := [], laidByText := true, laidKinds := [.wider], laidTests := true, laidLooks := .later }
def HeadListsUptoCardSaid : Prop := Claim7.holds Tryd.pinned (.plain (OpenSpec.upto headListsSpec)) headListsUptoCard

/-- THE SECOND FORM's CARD OF 'roundelaylaw09.HeadBack'. -/
def headBackUptoCard : Claim7 := { stood := { row := headBackUptoRow, standIns := [], harness := (true, "9b3216f6b6c253a4b8af7013000b453b1852a1d3fc4fcf26a5aa9a68164024ab"), looks := true }, kinds := [], alts := [], laidByText := true, laidKinds := [.wider], laidTests := true, laidLooks := .later }
def HeadBackUptoCardSaid : Prop := Claim7.holds Tryd.pinned (.plain (OpenSpec.upto headBackSpec)) headBackUptoCard

/-- THE SECOND FORM's CARD OF 'roundelaylaw09.HeadChains'. -/
def headChainsUptoCard : Claim7 := { stood := { row := headChainsUptoRow, standIns := [], harness := (true, "9b3216f6b6c253a4b8af7013000b453b1852a1d3fc4fcf26a5aa9a68164024ab"), looks := true }, kinds := [], alts := [], laidByText := true, laidKinds := [.wider], laidTests := true, laidLooks := .later }
def HeadChainsUptoCardSaid : Prop := Claim7.holds Tryd.pinned (.plain (OpenSpec.upto headChainsSpec)) headChainsUptoCard
end Rows
end Go.Proofs.YtmjdcpcndggflaaDoor
