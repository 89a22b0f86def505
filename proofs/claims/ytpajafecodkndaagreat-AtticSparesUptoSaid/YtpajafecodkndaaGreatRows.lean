/-
  No cell of these rows narrows 'for every input' (looked for: loops, veiled, ifaces, maps, wideKeys, modest, calm, conditions, laid).
  DERIVED. THE GIVEN ROWS OF THIS SEAT. 4 by the template 'for every input the law returns true; each argument reads behind the call as it read before'; 0 by the template 'total and deterministic' (their statements: YtpajafecodkndaaGreatTotals.lean).
  GIVEN WITH THE SEED: the statements are not yours to turn. If you find one false, say at which input.
  Laid BY PROGRAM, IN A SANDBOX (cutbox-rows.mjs): the forced cells as the released guide's own fill.sh prints them over the translation 5961f43bf77874e3… (all of the seat's roots in one cut). By AI agents, Wed Nov 11 2026. No macro, syntax, notation, axiom, sorry.
-/
import Derived.Test.YtpajafecodkndaaGreatChecked
import GoSem.Claim
import GoSem.ClaimJoined
import GoSem.ClaimMapViews
import Derived.JoinedTies
import Derived.KernelRfl
namespace Go.Proofs.YtpajafecodkndaaGreat
/- THE CELL 'sum', in the pinned program and in every row, IS THE sha256 OF THE DUMP (.gsa) THAT YtpajafecodkndaaGreatProg.lean LOADS. Nothing in Lean hashes anything: it is a label: what it is worth is what the hold of that sum in a sandbox is worth. -/
noncomputable def Tryz.pinned : Pinned := { name := "ytpajafecodkndaagreat", sum := "5961f43bf77874e3a3c367e8bcc227ffb9a1850a3603e7bf60dd0ee30c7b8f7e", checked := Tryz.checked }
namespace Rows
def none {H : Type} : Left H := { results := [], args := [] }

/-- 'roundelaylaw14.HoldPlays': WHATEVER THE INPUT: true; the input reads as it did. -/
def holdPlaysSpec : ChangeSpec := { name := "holdPlays", fn := fun _ => fun
  | [d] => { results := [.lit (.bool true)], args := [d] }
  | _ => none }
def holdPlaysRow : OpenClaim := { program := "ytpajafecodkndaagreat", sum := "5961f43bf77874e3a3c367e8bcc227ffb9a1850a3603e7bf60dd0ee30c7b8f7e", func := "roundelay/roundelaylaw14.HoldPlays", spec := "holdPlays", unfollowed := true, recurses := true, apart := false }
def HoldPlaysSaid : Prop := holdPlaysRow.holds Tryz.pinned (OpenSpec.ofChange holdPlaysSpec)

/-- ITS FALSE NEIGHBOUR: 'it returns false'. Refute it at one input. -/
def holdPlaysWrong : ChangeSpec := { name := "holdPlays", fn := fun _ => fun
  | [d] => { results := [.lit (.bool false)], args := [d] }
  | _ => none }
def HoldPlaysWrongFalsely : Prop := holdPlaysRow.holds Tryz.pinned (OpenSpec.ofChange holdPlaysWrong)

/-- 'roundelaylaw15.AtticKeeps': WHATEVER THE INPUT: true; the input reads as it did. -/
def atticKeepsSpec : ChangeSpec := { name := "atticKeeps", fn := fun _ => fun
  | [d] => { results := [.lit (.bool true)], args := [d] }
  | _ => none }
def atticKeepsRow : OpenClaim := { program := "ytpajafecodkndaagreat", sum := "5961f43bf77874e3a3c367e8bcc227ffb9a1850a3603e7bf60dd0ee30c7b8f7e", func := "roundelay/roundelaylaw15.AtticKeeps", spec := "atticKeeps", unfollowed := true, recurses := true, apart := false }
def AtticKeepsSaid : Prop := atticKeepsRow.holds Tryz.pinned (OpenSpec.ofChange atticKeepsSpec)

/-- ITS FALSE NEIGHBOUR: 'it returns false'. Refute it at one input. -/
def atticKeepsWrong : ChangeSpec := { name := "atticKeeps", fn := fun _ => fun
  | [d] => { results := [.lit (.bool false)], args := [d] }
  | _ => none }
def AtticKeepsWrongFalsely : Prop := atticKeepsRow.holds Tryz.pinned (OpenSpec.ofChange atticKeepsWrong)

/-- 'roundelaylaw15.AtticSweeps': WHATEVER THE INPUT: true; the input reads as it did. -/
def atticSweepsSpec : ChangeSpec := { name := "atticSweeps", fn := fun _ => fun
  | [d] => { results := [.lit (.bool true)], args := [d] }
  | _ => none }
def atticSweepsRow : OpenClaim := { program := "ytpajafecodkndaagreat", sum := "5961f43bf77874e3a3c367e8bcc227ffb9a1850a3603e7bf60dd0ee30c7b8f7e", func := "roundelay/roundelaylaw15.AtticSweeps", spec := "atticSweeps", unfollowed := true, recurses := true, apart := false }
def AtticSweepsSaid : Prop := atticSweepsRow.holds Tryz.pinned (OpenSpec.ofChange atticSweepsSpec)

/-- ITS FALSE NEIGHBOUR: 'it returns false'. Refute it at one input. -/
def atticSweepsWrong : ChangeSpec := { name := "atticSweeps", fn := fun _ => fun
  | [d] => { results := [.lit (.bool false)], args := [d] }
  | _ => none }
def AtticSweepsWrongFalsely : Prop := atticSweepsRow.holds Tryz.pinned (OpenSpec.ofChange atticSweepsWrong)

/-- 'roundelaylaw15.AtticSpares': WHATEVER THE INPUT: true; the input reads as it did. -/
def atticSparesSpec : ChangeSpec := { name := "atticSpares", fn := fun _ => fun
  | [d] => { results := [.lit (.bool true)], args := [d] }
  | _ => none }
def atticSparesRow : OpenClaim := { program := "ytpajafecodkndaagreat", sum := "5961f43bf77874e3a3c367e8bcc227ffb9a1850a3603e7bf60dd0ee30c7b8f7e", func := "roundelay/roundelaylaw15.AtticSpares", spec := "atticSpares", unfollowed := true, recurses := true, apart := false }
def AtticSparesSaid : Prop := atticSparesRow.holds Tryz.pinned (OpenSpec.ofChange atticSparesSpec)

/-- ITS FALSE NEIGHBOUR: 'it returns false'. Refute it at one input. -/
def atticSparesWrong : ChangeSpec := { name := "atticSpares", fn := fun _ => fun
  | [d] => { results := [.lit (.bool false)], args := [d] }
  | _ => none }
def AtticSparesWrongFalsely : Prop := atticSparesRow.holds Tryz.pinned (OpenSpec.ofChange atticSparesWrong)

/- THE SECOND FORM. 'bulk': how many values and letters a reading holds, each counted each time it is reached (what is shared counts as often as it is met; a slice's spare places count too). A statement '..UptoSaid' is the law's where the arguments, and the package variables that the reading takes, are together of bulk at most 1048576: NARROWER than '..Said'. Prove '..Said' where nothing that the law and all that it calls make is longer than what came in: it says more and counts as full. Else prove '..UptoSaid'. A law counts once. -/
mutual
def uptoBulk {H : Type} : DataW H → Nat
  | .lit (.string bytes) => bytes.length + 1
  | .lit _ => 1
  | .nil => 1
  | .ptr d => uptoBulk d + 1
  | .slice elems spare => uptoBulkAll elems + uptoBulkAll spare + 1
  | .agg parts => uptoBulkAll parts + 1
  | .iface _ d => uptoBulk d + 1
  | .map entries => uptoBulkEntries entries + 1
  | .held _ => 1
def uptoBulkAll {H : Type} : List (DataW H) → Nat
  | [] => 0
  | d :: r => uptoBulk d + uptoBulkAll r
def uptoBulkEntries {H : Type} : List (Lit × DataW H) → Nat
  | [] => 0
  | x :: r => uptoBulkEntry x + uptoBulkEntries r
def uptoBulkEntry {H : Type} : Lit × DataW H → Nat
  | (.string bytes, d) => bytes.length + uptoBulk d + 1
  | (_, d) => uptoBulk d + 1
 end
def uptoSmall : (H : Type) → List (DataW H) → Bool := fun _ ds => decide (uptoBulkAll ds ≤ 1048576)
def OpenSpec.upto (s : _root_.Go.ChangeSpec) : _root_.Go.OpenSpec := { _root_.Go.OpenSpec.ofChange s with cond := some uptoSmall }

/-- 'roundelaylaw14.HoldPlays', WHERE WHAT IT READS IS OF BULK AT MOST 1048576: true; the input reads as it did. -/
def holdPlaysUptoRow : OpenClaim := { program := "ytpajafecodkndaagreat", sum := "5961f43bf77874e3a3c367e8bcc227ffb9a1850a3603e7bf60dd0ee30c7b8f7e", func := "roundelay/roundelaylaw14.HoldPlays", spec := "holdPlays", unfollowed := true, recurses := true, apart := false, narrowed := true }
def HoldPlaysUptoSaid : Prop := holdPlaysUptoRow.holds Tryz.pinned (OpenSpec.upto holdPlaysSpec)

/-- 'roundelaylaw15.AtticKeeps', WHERE WHAT IT READS IS OF BULK AT MOST 1048576: true; the input reads as it did. -/
def atticKeepsUptoRow : OpenClaim := { program := "ytpajafecodkndaagreat", sum := "5961f43bf77874e3a3c367e8bcc227ffb9a1850a3603e7bf60dd0ee30c7b8f7e", func := "roundelay/roundelaylaw15.AtticKeeps", spec := "atticKeeps", unfollowed := true, recurses := true, apart := false, narrowed := true }
def AtticKeepsUptoSaid : Prop := atticKeepsUptoRow.holds Tryz.pinned (OpenSpec.upto atticKeepsSpec)

/-- 'roundelaylaw15.AtticSweeps', WHERE WHAT IT READS IS OF BULK AT MOST 1048576: true; the input reads as it did. -/
def atticSweepsUptoRow : OpenClaim := { program := "ytpajafecodkndaagreat", sum := "5961f43bf77874e3a3c367e8bcc227ffb9a1850a3603e7bf60dd0ee30c7b8f7e", func := "roundelay/roundelaylaw15.AtticSweeps", spec := "atticSweeps", unfollowed := true, recurses := true, apart := false, narrowed := true }
def AtticSweepsUptoSaid : Prop := atticSweepsUptoRow.holds Tryz.pinned (OpenSpec.upto atticSweepsSpec)

/-- 'roundelaylaw15.AtticSpares', WHERE WHAT IT READS IS OF BULK AT MOST 1048576: true; the input reads as it did. -/
def atticSparesUptoRow : OpenClaim := { program := "ytpajafecodkndaagreat", sum := "5961f43bf77874e3a3c367e8bcc227ffb9a1850a3603e7bf60dd0ee30c7b8f7e", func := "roundelay/roundelaylaw15.AtticSpares", spec := "atticSpares", unfollowed := true, recurses := true, apart := false, narrowed := true }
def AtticSparesUptoSaid : Prop := atticSparesUptoRow.holds Tryz.pinned (OpenSpec.upto atticSparesSpec)

end Rows
end Go.Proofs.YtpajafecodkndaaGreat
