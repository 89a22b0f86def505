/-
  NARROWER THAN 'FOR EVERY INPUT', by the rows' own cells (each row's printed sentence says how): DraftPlays: laid · DraftRaw: laid · DraftShares: laid.
  DERIVED. THE GIVEN ROWS OF THIS SEAT. 3 by the template 'for every input the law returns true; each argument reads behind the call as it read before'; 0 by the template 'total and deterministic' (their statements: YtjginajnegahdaaDoorTotals.lean).
  GIVEN WITH THE SEED: the statements are not yours to turn. If you find one false, say at which input.
  Laid BY PROGRAM, IN A SANDBOX (cutbox-rows.mjs): the forced cells as the released guide's own fill.sh prints them over the translation edd827b4530dabd5… (all of the seat's roots in one cut). By AI agents, Wed Nov 11 2026. No macro, syntax, notation, axiom, sorry.
-/
import Derived.Test.YtjginajnegahdaaDoorChecked
import GoSem.Claim
import GoSem.ClaimJoined
import GoSem.ClaimMapViews
import Derived.JoinedTies
import Derived.KernelRfl
namespace Go.Proofs.YtjginajnegahdaaDoor
/- THE CELL 'sum', in the pinned program and in every row, IS THE sha256 OF THE DUMP (.gsa) THAT YtjginajnegahdaaDoorProg.lean LOADS. Nothing in Lean hashes anything: it is a label: what it is worth is what the hold of that sum in a sandbox is worth. -/
noncomputable def Tryd.pinned : Pinned := { name := "ytjginajnegahdaadoor", sum := "edd827b4530dabd5ea602567714d3c04abd68501339d1d25bce57a4598c78830", checked := Tryd.checked }
namespace Rows
def none {H : Type} : Left H := { results := [], args := [] }

/- WHAT THE LISTED PACKAGE-LEVEL VARIABLES READ AS WHEN THE CALL BEGINS. Each datum BY PROGRAM (the guide's laid-datum.mjs) off the statement by which the dump's own 'gosem.cut.vars' lays the variable. In a bare row this is a premise. The card (YtjginajnegahdaaDoorCards.lean) ties it to the program's text. -/
def laid_roundelay_ops_operations {H : Type} : DataW H := .agg [.agg [.lit (.string [110, 111, 110, 101]), .agg [.lit (.int .i64 0), .lit (.int .i64 0), .lit (.int .i64 0)]], .agg [.lit (.string [101, 110, 113, 117, 101, 117, 101]), .agg [.lit (.int .i64 0), .lit (.int .i64 1023), .lit (.int .i64 0)]], .agg [.lit (.string [100, 101, 113, 117, 101, 117, 101]), .agg [.lit (.int .i64 0), .lit (.int .i64 0), .lit (.int .i64 0)]], .agg [.lit (.string [108, 101, 110, 103, 116, 104]), .agg [.lit (.int .i64 0), .lit (.int .i64 0), .lit (.int .i64 0)]], .agg [.lit (.string [103, 101, 116]), .agg [.lit (.int .i64 255), .lit (.int .i64 0), .lit (.int .i64 0)]], .agg [.lit (.string [112, 117, 116]), .agg [.lit (.int .i64 255), .lit (.int .i64 1023), .lit (.int .i64 0)]], .agg [.lit (.string [100, 101, 108, 101, 116, 101]), .agg [.lit (.int .i64 255), .lit (.int .i64 0), .lit (.int .i64 0)]], .agg [.lit (.string [115, 119, 97, 112]), .agg [.lit (.int .i64 255), .lit (.int .i64 1023), .lit (.int .i64 1023)]], .agg [.lit (.string [115, 105, 122, 101]), .agg [.lit (.int .i64 0), .lit (.int .i64 0), .lit (.int .i64 0)]], .agg [.lit (.string [102, 108, 111, 111, 114]), .agg [.lit (.int .i64 255), .lit (.int .i64 0), .lit (.int .i64 0)]], .agg [.lit (.string [115, 101, 116]), .agg [.lit (.int .i64 255), .lit (.int .i64 1023), .lit (.int .i64 0)]], .agg [.lit (.string [97, 99, 113, 117, 105, 114, 101]), .agg [.lit (.int .i64 255), .lit (.int .i64 0), .lit (.int .i64 0)]], .agg [.lit (.string [114, 101, 108, 101, 97, 115, 101]), .agg [.lit (.int .i64 255), .lit (.int .i64 0), .lit (.int .i64 0)]], .agg [.lit (.string [118, 97, 108, 117, 101]), .agg [.lit (.int .i64 255), .lit (.int .i64 0), .lit (.int .i64 0)]], .agg [.lit (.string [100, 114, 111, 112]), .agg [.lit (.int .i64 255), .lit (.int .i64 0), .lit (.int .i64 0)]]]

/-- 'roundelaylaw08.DraftPlays': WHATEVER THE INPUT: true; the input reads as it did. -/
def draftPlaysSpec : ChangeSpec := { name := "draftPlays", fn := fun _ => fun
  | [d] => { results := [.lit (.bool true)], args := [d] }
  | _ => none }
def draftPlaysRow : OpenClaim := { program := "ytjginajnegahdaadoor", sum := "edd827b4530dabd5ea602567714d3c04abd68501339d1d25bce57a4598c78830", func := "roundelay/roundelaylaw08.DraftPlays", spec := "draftPlays", unfollowed := true, recurses := true, named := ["roundelay/ops.operations"], apart := false, laid := [("roundelay/ops.operations", laid_roundelay_ops_operations)] }
def DraftPlaysSaid : Prop := draftPlaysRow.holds Tryd.pinned (OpenSpec.ofChange draftPlaysSpec)

/-- ITS FALSE NEIGHBOUR: 'it returns false'. Refute it at one input. -/
def draftPlaysWrong : ChangeSpec := { name := "draftPlays", fn := fun _ => fun
  | [d] => { results := [.lit (.bool false)], args := [d] }
  | _ => none }
def DraftPlaysWrongFalsely : Prop := draftPlaysRow.holds Tryd.pinned (OpenSpec.ofChange draftPlaysWrong)

/-- 'roundelaylaw08.DraftRaw': WHATEVER THE INPUT: true; the input reads as it did. -/
def draftRawSpec : ChangeSpec := { name := "draftRaw", fn := fun _ => fun
  | [d1, d2, d3] => { results := [.lit (.bool true)], args := [d1, d2, d3] }
  | _ => none }
def draftRawRow : OpenClaim := { program := "ytjginajnegahdaadoor", sum := "edd827b4530dabd5ea602567714d3c04abd68501339d1d25bce57a4598c78830", func := "roundelay/roundelaylaw08.DraftRaw", spec := "draftRaw", named := ["roundelay/ops.operations"], apart := false, laid := [("roundelay/ops.operations", laid_roundelay_ops_operations)] }
def DraftRawSaid : Prop := draftRawRow.holds Tryd.pinned (OpenSpec.ofChange draftRawSpec)

/-- ITS FALSE NEIGHBOUR: 'it returns false'. Refute it at one input. -/
def draftRawWrong : ChangeSpec := { name := "draftRaw", fn := fun _ => fun
  | [d1, d2, d3] => { results := [.lit (.bool false)], args := [d1, d2, d3] }
  | _ => none }
def DraftRawWrongFalsely : Prop := draftRawRow.holds Tryd.pinned (OpenSpec.ofChange draftRawWrong)

/-- 'roundelaylaw08.DraftShares': WHATEVER THE INPUT: true; the input reads as it did. -/
def draftSharesSpec : ChangeSpec := { name := "draftShares", fn := fun _ => fun
  | [d1, d2] => { results := [.lit (.bool true)], args := [d1, d2] }
  | _ => none }
def draftSharesRow : OpenClaim := { program := "ytjginajnegahdaadoor", sum := "edd827b4530dabd5ea602567714d3c04abd68501339d1d25bce57a4598c78830", func := "roundelay/roundelaylaw08.DraftShares", spec := "draftShares", named := ["roundelay/ops.operations"], apart := false, laid := [("roundelay/ops.operations", laid_roundelay_ops_operations)] }
def DraftSharesSaid : Prop := draftSharesRow.holds Tryd.pinned (OpenSpec.ofChange draftSharesSpec)

/-- ITS FALSE NEIGHBOUR: 'it returns false'. Refute it at one input. -/
def draftSharesWrong : ChangeSpec := { name := "draftShares", fn := fun _ => fun
  | [d1, d2] => { results := [.lit (.bool false)], args := [d1, d2] }
  | _ => none }
def DraftSharesWrongFalsely : Prop := draftSharesRow.holds Tryd.pinned (OpenSpec.ofChange draftSharesWrong)

/- THE SECOND FORM. 'bulk': how many values and letters a reading holds, each counted each time it is reached (what is shared counts as often as it is met; a slice's spare places count too). A statement '..UptoSaid' is the law's where the arguments, and the package variables that the reading takes, are together of bulk at most 1048576: NARROWER than '..Said'. Prove '..Said' where nothing that the law and all that it calls make is longer than what came in: it says more and counts as full. Else prove '..UptoSaid'. A law counts once. -/
mutual
def uptoBulk {H : Type} : DataW H → Nat
  | .lit (.string bytes) => bytes.length + 1
  | .lit _ => 1
  | .nil => 1
  | .ptr d => uptoBulk d + 1
  | .slice elems spare => uptoBulkAll elems + uptoBulkAll spare + 1
  | .agg parts => uptoBulkAll parts + 1
  | .iface _ d => uptoBulk d + 1
  | .map entries => uptoBulkEntries entries + 1
  | .held _ => 1
def uptoBulkAll {H : Type} : List (DataW H) → Nat
  | [] => 0
  | d :: r => uptoBulk d + uptoBulkAll r
def uptoBulkEntries {H : Type} : List (Lit × DataW H) → Nat
  | [] => 0
  | x :: r => uptoBulkEntry x + uptoBulkEntries r
def uptoBulkEntry {H : Type} : Lit × DataW H → Nat
  | (.string bytes, d) => bytes.length + uptoBulk d + 1
  | (_, d) => uptoBulk d + 1
 end
def uptoSmall : (H : Type) → List (DataW H) → Bool := fun _ ds => decide (uptoBulkAll ds ≤ 1048576)
def OpenSpec.upto (s : _root_.Go.ChangeSpec) : _root_.Go.OpenSpec := { _root_.Go.OpenSpec.ofChange s with cond := some uptoSmall }

/-- 'roundelaylaw08.DraftPlays', WHERE WHAT IT READS IS OF BULK AT MOST 1048576: true; the input reads as it did. -/
def draftPlaysUptoRow : OpenClaim := { program := "ytjginajnegahdaadoor", sum := "edd827b4530dabd5ea602567714d3c04abd68501339d1d25bce57a4598c78830", func := "roundelay/roundelaylaw08.DraftPlays", spec := "draftPlays", unfollowed := true, recurses := true, named := ["roundelay/ops.operations"], apart := false, laid := [("roundelay/ops.operations", laid_roundelay_ops_operations)], narrowed := true }
def DraftPlaysUptoSaid : Prop := draftPlaysUptoRow.holds Tryd.pinned (OpenSpec.upto draftPlaysSpec)

/-- 'roundelaylaw08.DraftRaw', WHERE WHAT IT READS IS OF BULK AT MOST 1048576: true; the input reads as it did. -/
def draftRawUptoRow : OpenClaim := { program := "ytjginajnegahdaadoor", sum := "edd827b4530dabd5ea602567714d3c04abd68501339d1d25bce57a4598c78830", func := "roundelay/roundelaylaw08.DraftRaw", spec := "draftRaw", named := ["roundelay/ops.operations"], apart := false, laid := [("roundelay/ops.operations", laid_roundelay_ops_operations)], narrowed := true }
def DraftRawUptoSaid : Prop := draftRawUptoRow.holds Tryd.pinned (OpenSpec.upto draftRawSpec)

/-- 'roundelaylaw08.DraftShares', WHERE WHAT IT READS IS OF BULK AT MOST 1048576: true; the input reads as it did. -/
def draftSharesUptoRow : OpenClaim := { program := "ytjginajnegahdaadoor", sum := "edd827b4530dabd5ea602567714d3c04abd68501339d1d25bce57a4598c78830", func := "roundelay/roundelaylaw08.DraftShares", spec := "draftShares", named := ["roundelay/ops.operations"], apart := false, laid := [("roundelay/ops.operations", laid_roundelay_ops_operations)], narrowed := true }
def DraftSharesUptoSaid : Prop := draftSharesUptoRow.holds Tryd.pinned (OpenSpec.upto draftSharesSpec)

end Rows
end Go.Proofs.YtjginajnegahdaaDoor
