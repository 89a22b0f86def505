/-
  DERIVED. GIVEN WITH THE SEED: THE CARDS: each row of YtjginajnegahdaaDoorRows.lean that lists a variable, with what it lists TIED to the program's text (the seventh form; the later family's looks); each row that meets fmt, with fmt's text TOLD by the authors' own Lean function (tested against real Go, not proved from fmt's source: count such statements apart). THE CARD IS WHAT COUNTS. Prove the row's statement (the work); the ties are given (YtjginajnegahdaaDoorTie.lean); close each card by the builder's one call (the guide's Derived/Test/ToyasCard.lean, 'card_holds'). Laid BY PROGRAM, IN A SANDBOX (cutbox-door.mjs). By AI agents, Wed Nov 11 2026. No macro, syntax, notation, axiom, sorry.
-/
import Derived.Test.YtjginajnegahdaaDoorRows
import GoSem.ClaimSeven
namespace Go.Proofs.YtjginajnegahdaaDoor
namespace Rows

/-- THE TIED CARD OF 'roundelaylaw08.DraftPlays'. -/
def draftPlaysCard : Claim7 := { stood := { row := draftPlaysRow, standIns := [], harness := (true, "294fd3192dfff52b43038f63b347d812918f16180925c9d92bd37c5a2a433ad0"), looks := true }, kinds := [], alts := [], laidByText := true, laidKinds := [.wider], laidTests := true, laidLooks := .later }
def DraftPlaysCardSaid : Prop := Claim7.holds Tryd.pinned (.plain (OpenSpec.ofChange draftPlaysSpec)) draftPlaysCard

/-- THE TIED CARD OF 'roundelaylaw08.DraftRaw'. -/
def draftRawCard : Claim7 := { stood := { row := draftRawRow, standIns := [], harness := (true, "294fd3192dfff52b43038f63b347d812918f16180925c9d92bd37c5a2a433ad0"), looks := true }, kinds := [], alts := [], laidByText := true, laidKinds := [.wider], laidTests := true, laidLooks := .later }
def DraftRawCardSaid : Prop := Claim7.holds Tryd.pinned (.plain (OpenSpec.ofChange draftRawSpec)) draftRawCard

/-- THE TIED CARD OF 'roundelaylaw08.DraftShares'. -/
def draftSharesCard : Claim7 := { stood := { row := draftSharesRow, standIns := [], harness := (true, "294fd3192dfff52b43038f63b347d812918f16180925c9d92bd37c5a2a433ad0"), looks := true }, kinds := [], alts := [], laidByText := true, laidKinds := [.wider], laidTests := true, laidLooks := .later }
def DraftSharesCardSaid : Prop := Claim7.holds Tryd.pinned (.plain (OpenSpec.ofChange draftSharesSpec)) draftSharesCard

/-- THE SECOND FORM's CARD OF 'roundelaylaw08.DraftPlays'. -/
def draftPlaysUptoCard : Claim7 := { stood := { row := draftPlaysUptoRow, standIns := [], harness := (true, "294fd3192dfff52b43038f63b347d812918f16180925c9d92bd37c5a2a433ad0"), looks := true }, kinds := [], alts := [], laidByText := true, laidKinds := [.wider], laidTests := true, laidLooks := .later }
def DraftPlaysUptoCardSaid : Prop := Claim7.holds Tryd.pinned (.plain (OpenSpec.upto draftPlaysSpec)) draftPlaysUptoCard

/-- THE SECOND FORM's CARD OF 'roundelaylaw08.DraftRaw'. -/
def draftRawUptoCard : Claim7 := { stood := { row := draftRawUptoRow, standIns := [], harness := (true, "294fd3192dfff52b43038f63b347d812918f16180925c9d92bd37c5a2a433ad0"), looks := true }, kinds := [], alts := [], laidByText := true, laidKinds := [.wider], laidTests := true, laidLooks := .later }
def DraftRawUptoCardSaid : Prop := Claim7.holds Tryd.pinned (.plain (OpenSpec.upto draftRawSpec)) draftRawUptoCard

/-- THE SECOND FORM's CARD OF 'roundelaylaw08.DraftShares'. -/
def draftSharesUptoCard : Claim7 := { stood := { row := draftSharesUptoRow, standIns := [], harness := (true, "294fd3192dfff52b43038f63b347d812918f16180925c9d92bd37c5a2a433ad0"), looks := true }, kinds := [], alts := [], laidByText := true, laidKinds := [.wider], laidTests := true, laidLooks := .later }
def DraftSharesUptoCardSaid : Prop := Claim7.holds Tryd.pinned (.plain (OpenSpec.upto draftSharesSpec)) draftSharesUptoCard
end Rows
end Go.Proofs.YtjginajnegahdaaDoor
