/-
  DERIVED. GIVEN WITH THE SEED: THE CARDS: each row of YtlfejjegegdbnaaDoorRows.lean that lists a variable, with what it lists TIED to the program's text (the seventh form; the later family's looks); each row that meets fmt, with fmt's text TOLD by the authors' own Lean function (tested against real Go, not proved from fmt's source: count such statements apart). THE CARD IS WHAT COUNTS. Prove the row's statement (the work); the ties are given (YtlfejjegegdbnaaDoorTie.lean); close each card by the builder's one call (the guide's Derived/Test/ToyasCard.lean, 'card_holds'). Laid BY PROGRAM, IN A SANDBOX (cutbox-door.mjs). By AI agents, Wed Nov 11 2026. No macro, syntax, notation, axiom, sorry.
-/
import Derived.Test.YtlfejjegegdbnaaDoorRows
import GoSem.ClaimSeven
namespace Go.Proofs.YtlfejjegegdbnaaDoor
namespace Rows

/-- THE TIED CARD OF 'roundelaylaw05.OpsPack'. -/
def opsPackCard : Claim7 := { stood := { row := opsPackRow, standIns := [], harness := (true, "78818a0eaeae2997950c733c03e8d2236a5e595e32ea3ca5e6461b2dc4e2d445"), looks := true }, kinds := [], alts := [], laidByText := true, laidKinds := [.data, .data, .data, .sentinel, .sentinel, .wider, .wider], laidTests := true, laidLooks := .later }
def OpsPackCardSaid : Prop := Claim7.holds Tryd.pinned (.plain (OpenSpec.ofChange opsPackSpec)) opsPackCard

/-- THE TIED CARD OF 'roundelaylaw05.OpsUnpack'. -/
def opsUnpackCard : Claim7 := { stood := { row := opsUnpackRow, standIns := [], harness := (true, "78818a0eaeae2997950c733c03e8d2236a5e595e32ea3ca5e6461b2dc4e2d445"), looks := true }, kinds := [], alts := [], laidByText := true, laidKinds := [.data, .data, .data, .sentinel, .sentinel, .wider, .wider], laidTests := true, laidLooks := .later }
def OpsUnpackCardSaid : Prop := Claim7.holds Tryd.pinned (.plain (OpenSpec.ofChange opsUnpackSpec)) opsUnpackCard

/-- THE TIED CARD OF 'roundelaylaw05.OpsTexts'. -/
def opsTextsCard : Claim7 := { stood := { row := opsTextsRow, standIns := [], harness := (true, "78818a0eaeae2997950c733c03e8d2236a5e595e32ea3ca5e6461b2dc4e2d445"), looks := true }, kinds := [], alts := [], laidByText := true, laidKinds := [.data, .data, .data, .sentinel, .sentinel, .wider, .wider], laidTests := true, laidLooks := .later }
def OpsTextsCardSaid : Prop := Claim7.holds Tryd.pinned (.plain (OpenSpec.ofChange opsTextsSpec)) opsTextsCard

/-- THE TIED CARD OF 'roundelaylaw05.OpsBack'. -/
def opsBackCard : Claim7 := { stood := { row := opsBackRow, standIns := [], harness := (true, "78818a0eaeae2997950c733c03e8d2236a5e595e32ea3ca5e6461b2dc4e2d445"), looks := true }, kinds := [], alts := [], laidByText := true, laidKinds := [.data, .data, .data, .sentinel, .sentinel, .wider, .wider], laidTests := true, laidLooks := .later }
def OpsBackCardSaid : Prop := Claim7.holds Tryd.pinned (.plain (OpenSpec.ofChange opsBackSpec)) opsBackCard

/-- THE SECOND FORM's CARD OF 'roundelaylaw05.OpsPack'. -/
def opsPackUptoCard : Claim7 := { stood := { row := opsPackUptoRow, standIns := [], harness := (true, "78818a0eaeae2997950c733c03e8d2236a5e595e32ea3ca5e6461b2dc4e2d445"), looks := true }, kinds := [], alts := [], laidByText := true, laidKinds := [.data, .data, .data, .sentinel, .sentinel, .wider, .wider], laidTests := true, laidLooks := .later }
def OpsPackUptoCardSaid : Prop := Claim7.holds Tryd.pinned (.plain (OpenSpec.upto opsPackSpec)) opsPackUptoCard

/-- THE SECOND FORM's CARD OF 'roundelaylaw05.OpsUnpack'. -/
def opsUnpackUptoCard : Claim7 := { stood := { row := opsUnpackUptoRow, standIns := [], harness := (true, "78818a0eaeae2997950c733c03e8d2236a5e595e32ea3ca5e6461b2dc4e2d445"), looks := true }, kinds := [], alts := [], laidByText := true, laidKinds := [.data, .data, .data, .sentinel, .sentinel, .wider, .wider], laidTests := true, laidLooks := .later }
def OpsUnpackUptoCardSaid : Prop := Claim7.holds Tryd.pinned (.plain (OpenSpec.upto opsUnpackSpec)) opsUnpackUptoCard

/-- THE SECOND FORM's CARD OF 'roundelaylaw05.OpsTexts'. -/
def opsTextsUptoCard : Claim7 := { stood := { row := opsTextsUptoRow, standIns := [], harness := (true, "78818a0eaeae2997950c733c03e8d2236a5e595e32ea3ca5e6461b2dc4e2d445"), looks := true }, kinds := [], alts := [], laidByText := true, laidKinds := [.data, .data, .data, .sentinel, .sentinel, .wider, .wider], laidTests := true, laidLooks := .later }
def OpsTextsUptoCardSaid : Prop := Claim7.holds Tryd.pinned (.plain (OpenSpec.upto opsTextsSpec)) opsTextsUptoCard

/-- THE SECOND FORM's CARD OF 'roundelaylaw05.OpsBack'. -/
def opsBackUptoCard : Claim7 := { stood := { row := opsBackUptoRow, standIns := [], harness := (true, "78818a0eaeae2997950c733c03e8d2236a5e595e32ea3ca5e6461b2dc4e2d445"), looks := true }, kinds := [], alts := [], laidByText := true, laidKinds := [.data, .data, .data, .sentinel, .sentinel, .wider, .wider], laidTests := true, laidLooks := .later }
def OpsBackUptoCardSaid : Prop := Claim7.holds Tryd.pinned (.plain (OpenSpec.upto opsBackSpec)) opsBackUptoCard
end Rows
end Go.Proofs.YtlfejjegegdbnaaDoor
