/-
  No cell of these rows narrows 'for every input' (looked for: loops, veiled, ifaces, maps, wideKeys, modest, calm, conditions, laid).
  DERIVED. THE GIVEN ROWS OF THIS SEAT. 4 by the template 'for every input the law returns true; each argument reads behind the call as it read before'; 0 by the template 'total and deterministic' (their statements: YtennngngdmdpnaaTotals.lean).
  GIVEN WITH THE SEED: the statements are not yours to turn. If you find one false, say at which input.
  Laid BY PROGRAM, IN A SANDBOX (cutbox-rows.mjs): the forced cells as the released guide's own fill.sh prints them over the translation 46ce67a4820d894d… (all of the seat's roots in one cut). By AI agents, Wed Nov 11 2026. No macro, syntax, notation, axiom, sorry.
-/
import Derived.Test.YtennngngdmdpnaaChecked
import GoSem.Claim
import GoSem.ClaimJoined
import GoSem.ClaimMapViews
import Derived.JoinedTies
import Derived.KernelRfl
namespace Go.Proofs.Ytennngngdmdpnaa
/- THE CELL 'sum', in the pinned program and in every row, IS THE sha256 OF THE DUMP (.gsa) THAT YtennngngdmdpnaaProg.lean LOADS. Nothing in Lean hashes anything: it is a label: what it is worth is what the hold of that sum in a sandbox is worth. -/
noncomputable def Try.pinned : Pinned := { name := "ytennngngdmdpnaa", sum := "46ce67a4820d894deabd9df3b561dd602b2d43d0e672e850e198e931bd145c5f", checked := Try.checked }
namespace Rows
def none {H : Type} : Left H := { results := [], args := [] }

/-- 'roundelaylaw07.QuadTells': WHATEVER THE INPUT: true; the input reads as it did. -/
def quadTellsSpec : ChangeSpec := { name := "quadTells", fn := fun _ => fun
  | [d] => { results := [.lit (.bool true)], args := [d] }
  | _ => none }
def quadTellsRow : OpenClaim := { program := "ytennngngdmdpnaa", sum := "46ce67a4820d894deabd9df3b561dd602b2d43d0e672e850e198e931bd145c5f", func := "roundelay/roundelaylaw07.QuadTells", spec := "quadTells", unfollowed := true, recurses := true, apart := false }
def QuadTellsSaid : Prop := quadTellsRow.holds Try.pinned (OpenSpec.ofChange quadTellsSpec)

/-- ITS FALSE NEIGHBOUR: 'it returns false'. Refute it at one input. -/
def quadTellsWrong : ChangeSpec := { name := "quadTells", fn := fun _ => fun
  | [d] => { results := [.lit (.bool false)], args := [d] }
  | _ => none }
def QuadTellsWrongFalsely : Prop := quadTellsRow.holds Try.pinned (OpenSpec.ofChange quadTellsWrong)

/-- 'roundelaylaw07.QuadFew': WHATEVER THE INPUT: true; the input reads as it did. -/
def quadFewSpec : ChangeSpec := { name := "quadFew", fn := fun _ => fun
  | [d1, d2] => { results := [.lit (.bool true)], args := [d1, d2] }
  | _ => none }
def quadFewRow : OpenClaim := { program := "ytennngngdmdpnaa", sum := "46ce67a4820d894deabd9df3b561dd602b2d43d0e672e850e198e931bd145c5f", func := "roundelay/roundelaylaw07.QuadFew", spec := "quadFew", unfollowed := true, recurses := true, apart := false }
def QuadFewSaid : Prop := quadFewRow.holds Try.pinned (OpenSpec.ofChange quadFewSpec)

/-- ITS FALSE NEIGHBOUR: 'it returns false'. Refute it at one input. -/
def quadFewWrong : ChangeSpec := { name := "quadFew", fn := fun _ => fun
  | [d1, d2] => { results := [.lit (.bool false)], args := [d1, d2] }
  | _ => none }
def QuadFewWrongFalsely : Prop := quadFewRow.holds Try.pinned (OpenSpec.ofChange quadFewWrong)

/-- 'roundelaylaw07.QuadPuts': WHATEVER THE INPUT: true; the input reads as it did. -/
def quadPutsSpec : ChangeSpec := { name := "quadPuts", fn := fun _ => fun
  | [d1, d2, d3] => { results := [.lit (.bool true)], args := [d1, d2, d3] }
  | _ => none }
def quadPutsRow : OpenClaim := { program := "ytennngngdmdpnaa", sum := "46ce67a4820d894deabd9df3b561dd602b2d43d0e672e850e198e931bd145c5f", func := "roundelay/roundelaylaw07.QuadPuts", spec := "quadPuts", unfollowed := true, recurses := true, apart := false }
def QuadPutsSaid : Prop := quadPutsRow.holds Try.pinned (OpenSpec.ofChange quadPutsSpec)

/-- ITS FALSE NEIGHBOUR: 'it returns false'. Refute it at one input. -/
def quadPutsWrong : ChangeSpec := { name := "quadPuts", fn := fun _ => fun
  | [d1, d2, d3] => { results := [.lit (.bool false)], args := [d1, d2, d3] }
  | _ => none }
def QuadPutsWrongFalsely : Prop := quadPutsRow.holds Try.pinned (OpenSpec.ofChange quadPutsWrong)

/-- 'roundelaylaw03.ArenaPlays': WHATEVER THE INPUT: true; the input reads as it did. -/
def arenaPlaysSpec : ChangeSpec := { name := "arenaPlays", fn := fun _ => fun
  | [d1, d2, d3] => { results := [.lit (.bool true)], args := [d1, d2, d3] }
  | _ => none }
def arenaPlaysRow : OpenClaim := { program := "ytennngngdmdpnaa", sum := "46ce67a4820d894deabd9df3b561dd602b2d43d0e672e850e198e931bd145c5f", func := "roundelay/roundelaylaw03.ArenaPlays", spec := "arenaPlays", inPlace := ["maps.clone"], unfollowed := true, recurses := true, apart := false }
def ArenaPlaysSaid : Prop := arenaPlaysRow.holds Try.pinned (OpenSpec.ofChange arenaPlaysSpec)

/-- ITS FALSE NEIGHBOUR: 'it returns false'. Refute it at one input. -/
def arenaPlaysWrong : ChangeSpec := { name := "arenaPlays", fn := fun _ => fun
  | [d1, d2, d3] => { results := [.lit (.bool false)], args := [d1, d2, d3] }
  | _ => none }
def ArenaPlaysWrongFalsely : Prop := arenaPlaysRow.holds Try.pinned (OpenSpec.ofChange arenaPlaysWrong)

/- THE SECOND FORM. 'bulk': how many values and letters a reading holds, each counted each time it is reached (what is shared counts as often as it is met; a slice's spare places count too). A statement '..UptoSaid' is the law's where the arguments, and the package variables that the reading takes, are together of bulk at most 1048576: NARROWER than '..Said'. Prove '..Said' where nothing that the law and all that it calls make is longer than what came in: it says more and counts as full. Else prove '..UptoSaid'. A law counts once. -/
mutual
def uptoBulk {H : Type} : DataW H → Nat
  | .lit (.string bytes) => bytes.length + 1
  | .lit _ => 1
  | .nil => 1
  | .ptr d => uptoBulk d + 1
  | .slice elems spare => uptoBulkAll elems + uptoBulkAll spare + 1
  | .agg parts => uptoBulkAll parts + 1
  | .iface _ d => uptoBulk d + 1
  | .map entries => uptoBulkEntries entries + 1
  | .held _ => 1
def uptoBulkAll {H : Type} : List (DataW H) → Nat
  | [] => 0
  | d :: r => uptoBulk d + uptoBulkAll r
def uptoBulkEntries {H : Type} : List (Lit × DataW H) → Nat
  | [] => 0
  | x :: r => uptoBulkEntry x + uptoBulkEntries r
def uptoBulkEntry {H : Type} : Lit × DataW H → Nat
  | (.string bytes, d) => bytes.length + uptoBulk d + 1
  | (_, d) => uptoBulk d + 1
 end
def uptoSmall : (H : Type) → List (DataW H) → Bool := fun _ ds => decide (uptoBulkAll ds ≤ 1048576)
def OpenSpec.upto (s : _root_.Go.ChangeSpec) : _root_.Go.OpenSpec := { _root_.Go.OpenSpec.ofChange s with cond := some uptoSmall }

/-- 'roundelaylaw07.QuadTells', WHERE WHAT IT READS IS OF BULK AT MOST 1048576: true; the input reads as it did. -/
def quadTellsUptoRow : OpenClaim := { program := "ytennngngdmdpnaa", sum := "46ce67a4820d894deabd9df3b561dd602b2d43d0e672e850e198e931bd145c5f", func := "roundelay/roundelaylaw07.QuadTells", spec := "quadTells", unfollowed := true, recurses := true, apart := false, narrowed := true }
def QuadTellsUptoSaid : Prop := quadTellsUptoRow.holds Try.pinned (OpenSpec.upto quadTellsSpec)

/-- 'roundelaylaw07.QuadFew', WHERE WHAT IT READS IS OF BULK AT MOST 1048576: true; the input reads as it did. -/
def quadFewUptoRow : OpenClaim := { program := "ytennngngdmdpnaa", sum := "46ce67a4820d894deabd9df3b561dd602b2d43d0e672e850e198e931bd145c5f", func := "roundelay/roundelaylaw07.QuadFew", spec := "quadFew", unfollowed := true, recurses := true, apart := false, narrowed := true }
def QuadFewUptoSaid : Prop := quadFewUptoRow.holds Try.pinned (OpenSpec.upto quadFewSpec)

/-- 'roundelaylaw07.QuadPuts', WHERE WHAT IT READS IS OF BULK AT MOST 1048576: true; the input reads as it did. -/
def quadPutsUptoRow : OpenClaim := { program := "ytennngngdmdpnaa", sum := "46ce67a4820d894deabd9df3b561dd602b2d43d0e672e850e198e931bd145c5f", func := "roundelay/roundelaylaw07.QuadPuts", spec := "quadPuts", unfollowed := true, recurses := true, apart := false, narrowed := true }
def QuadPutsUptoSaid : Prop := quadPutsUptoRow.holds Try.pinned (OpenSpec.upto quadPutsSpec)

/-- 'roundelaylaw03.ArenaPlays', WHERE WHAT IT READS IS OF BULK AT MOST 1048576: true; the input reads as it did. -/
def arenaPlaysUptoRow : OpenClaim := { program := "ytennngngdmdpnaa", sum := "46ce67a4820d894deabd9df3b561dd602b2d43d0e672e850e198e931bd145c5f", func := "roundelay/roundelaylaw03.ArenaPlays", spec := "arenaPlays", inPlace := ["maps.clone"], unfollowed := true, recurses := true, apart := false, narrowed := true }
def ArenaPlaysUptoSaid : Prop := arenaPlaysUptoRow.holds Try.pinned (OpenSpec.upto arenaPlaysSpec)

end Rows
end Go.Proofs.Ytennngngdmdpnaa
