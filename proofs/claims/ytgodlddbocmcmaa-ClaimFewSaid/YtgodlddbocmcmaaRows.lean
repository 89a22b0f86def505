/-
  No cell of these rows narrows 'for every input' (looked for: loops, veiled, ifaces, maps, wideKeys, modest, calm, conditions, laid).
  DERIVED. THE GIVEN ROWS OF THIS SEAT. 2 by the template 'for every input the law returns true; each argument reads behind the call as it read before'; 0 by the template 'total and deterministic' (their statements: YtgodlddbocmcmaaTotals.lean).
  GIVEN WITH THE SEED: the statements are not yours to turn. If you find one false, say at which input.
  Laid BY PROGRAM, IN A SANDBOX (cutbox-rows.mjs): the forced cells as the released guide's own fill.sh prints them over the translation 7d3928303917a6bb… (all of the seat's roots in one cut). By AI agents, Wed Nov 11 2026. No macro, syntax, notation, axiom, sorry.
-/
import Derived.Test.YtgodlddbocmcmaaChecked
import GoSem.Claim
import GoSem.ClaimJoined
import GoSem.ClaimMapViews
import Derived.JoinedTies
import Derived.KernelRfl
namespace Go.Proofs.Ytgodlddbocmcmaa
/- THE CELL 'sum', in the pinned program and in every row, IS THE sha256 OF THE DUMP (.gsa) THAT YtgodlddbocmcmaaProg.lean LOADS. Nothing in Lean hashes anything: it is a label: what it is worth is what the hold of that sum in a sandbox is worth. -/
noncomputable def Try.pinned : Pinned := { name := "ytgodlddbocmcmaa", sum := "7d3928303917a6bb08963ed236d6c4871c0c1d9cdcf110d6dedd753cb9d93895", checked := Try.checked }
namespace Rows
def none {H : Type} : Left H := { results := [], args := [] }

/-- 'roundelaylaw11.ClaimFew': WHATEVER THE INPUT: true; the input reads as it did. -/
def claimFewSpec : ChangeSpec := { name := "claimFew", fn := fun _ => fun
  | [d1, d2] => { results := [.lit (.bool true)], args := [d1, d2] }
  | _ => none }
def claimFewRow : OpenClaim := { program := "ytgodlddbocmcmaa", sum := "7d3928303917a6bb08963ed236d6c4871c0c1d9cdcf110d6dedd753cb9d93895", func := "roundelay/roundelaylaw11.ClaimFew", spec := "claimFew", unfollowed := true, recurses := true, apart := false }
def ClaimFewSaid : Prop := claimFewRow.holds Try.pinned (OpenSpec.ofChange claimFewSpec)

/-- ITS FALSE NEIGHBOUR: 'it returns false'. Refute it at one input. -/
def claimFewWrong : ChangeSpec := { name := "claimFew", fn := fun _ => fun
  | [d1, d2] => { results := [.lit (.bool false)], args := [d1, d2] }
  | _ => none }
def ClaimFewWrongFalsely : Prop := claimFewRow.holds Try.pinned (OpenSpec.ofChange claimFewWrong)

/-- 'roundelaylaw11.ClaimRows': WHATEVER THE INPUT: true; the input reads as it did. -/
def claimRowsSpec : ChangeSpec := { name := "claimRows", fn := fun _ => fun
  | [d1, d2] => { results := [.lit (.bool true)], args := [d1, d2] }
  | _ => none }
def claimRowsRow : OpenClaim := { program := "ytgodlddbocmcmaa", sum := "7d3928303917a6bb08963ed236d6c4871c0c1d9cdcf110d6dedd753cb9d93895", func := "roundelay/roundelaylaw11.ClaimRows", spec := "claimRows", unfollowed := true, recurses := true, apart := false }
def ClaimRowsSaid : Prop := claimRowsRow.holds Try.pinned (OpenSpec.ofChange claimRowsSpec)

/-- ITS FALSE NEIGHBOUR: 'it returns false'. Refute it at one input. -/
def claimRowsWrong : ChangeSpec := { name := "claimRows", fn := fun _ => fun
  | [d1, d2] => { results := [.lit (.bool false)], args := [d1, d2] }
  | _ => none }
def ClaimRowsWrongFalsely : Prop := claimRowsRow.holds Try.pinned (OpenSpec.ofChange claimRowsWrong)

/- THE SECOND FORM. 'bulk': how many values and letters a reading holds, each counted each time it is reached (what is shared counts as often as it is met; a slice's spare places count too). A statement '..UptoSaid' is the law's where the arguments, and the package variables that the reading takes, are together of bulk at most 1048576: NARROWER than '..Said'. Prove '..Said' where nothing that the law and all that it calls make is longer than what came in: it says more and counts as full. Else prove '..UptoSaid'. A law counts once. -/
mutual
def uptoBulk {H : Type} : DataW H → Nat
  | .lit (.string bytes) => bytes.length + 1
  | .lit _ => 1
  | .nil => 1
  | .ptr d => uptoBulk d + 1
  | .slice elems spare => uptoBulkAll elems + uptoBulkAll spare + 1
  | .agg parts => uptoBulkAll parts + 1
  | .iface _ d => uptoBulk d + 1
  | .map entries => uptoBulkEntries entries + 1
  | .held _ => 1
def uptoBulkAll {H : Type} : List (DataW H) → Nat
  | [] => 0
  | d :: r => uptoBulk d + uptoBulkAll r
def uptoBulkEntries {H : Type} : List (Lit × DataW H) → Nat
  | [] => 0
  | x :: r => uptoBulkEntry x + uptoBulkEntries r
def uptoBulkEntry {H : Type} : Lit × DataW H → Nat
  | (.string bytes, d) => bytes.length + uptoBulk d + 1
  | (_, d) => uptoBulk d + 1
 end
def uptoSmall : (H : Type) → List (DataW H) → Bool := fun _ ds => decide (uptoBulkAll ds ≤ 1048576)
def OpenSpec.upto (s : _root_.Go.ChangeSpec) : _root_.Go.OpenSpec := { _root_.Go.OpenSpec.ofChange s with cond := some uptoSmall }

/-- 'roundelaylaw11.ClaimFew', WHERE WHAT IT READS IS OF BULK AT MOST 1048576: true; the input reads as it did. -/
def claimFewUptoRow : OpenClaim := { program := "ytgodlddbocmcmaa", sum := "7d3928303917a6bb08963ed236d6c4871c0c1d9cdcf110d6dedd753cb9d93895", func := "roundelay/roundelaylaw11.ClaimFew", spec := "claimFew", unfollowed := true, recurses := true, apart := false, narrowed := true }
def ClaimFewUptoSaid : Prop := claimFewUptoRow.holds Try.pinned (OpenSpec.upto claimFewSpec)

/-- 'roundelaylaw11.ClaimRows', WHERE WHAT IT READS IS OF BULK AT MOST 1048576: true; the input reads as it did. -/
def claimRowsUptoRow : OpenClaim := { program := "ytgodlddbocmcmaa", sum := "7d3928303917a6bb08963ed236d6c4871c0c1d9cdcf110d6dedd753cb9d93895", func := "roundelay/roundelaylaw11.ClaimRows", spec := "claimRows", unfollowed := true, recurses := true, apart := false, narrowed := true }
def ClaimRowsUptoSaid : Prop := claimRowsUptoRow.holds Try.pinned (OpenSpec.upto claimRowsSpec)

end Rows
end Go.Proofs.Ytgodlddbocmcmaa
