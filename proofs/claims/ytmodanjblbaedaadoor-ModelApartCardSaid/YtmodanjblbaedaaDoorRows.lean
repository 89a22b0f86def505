/-
  NARROWER THAN 'FOR EVERY INPUT', by the rows' own cells (each row's printed sentence says how): ModelPlays: laid · ModelHolds: laid · ModelApart: laid.
  DERIVED. THE GIVEN ROWS OF THIS SEAT. 3 by the template 'for every input the law returns true; each argument reads behind the call as it read before'; 0 by the template 'total and deterministic' (their statements: YtmodanjblbaedaaDoorTotals.lean).
  GIVEN WITH THE SEED: the statements are not yours to turn. If you find one false, say at which input.
  Laid BY PROGRAM, IN A SANDBOX (cutbox-rows.mjs): the forced cells as the released guide's own fill.sh prints them over the translation dc5982baaa403355… (all of the seat's roots in one cut). By AI agents, Wed Nov 11 2026. No macro, syntax, notation, axiom, sorry.
-/
import Derived.Test.YtmodanjblbaedaaDoorChecked
import GoSem.Claim
import GoSem.ClaimJoined
import GoSem.ClaimMapViews
import Derived.JoinedTies
import Derived.KernelRfl
namespace Go.Proofs.YtmodanjblbaedaaDoor
/- THE CELL 'sum', in the pinned program and in every row, IS THE sha256 OF THE DUMP (.gsa) THAT YtmodanjblbaedaaDoorProg.lean LOADS. Nothing in Lean hashes anything: it is a label: what it is worth is what the hold of that sum in a sandbox is worth. -/
noncomputable def Tryd.pinned : Pinned := { name := "ytmodanjblbaedaadoor", sum := "dc5982baaa403355864629f69c65784a2ec125d82f4cea821517c8d5eba624ed", checked := Tryd.checked }
namespace Rows
def none {H : Type} : Left H := { results := [], args := [] }

/- WHAT THE LISTED PACKAGE-LEVEL VARIABLES READ AS WHEN THE CALL BEGINS. Each datum BY PROGRAM (the guide's laid-datum.mjs) off the statement by which the dump's own 'gosem.cut.vars' lays the variable. In a bare row this is a premise. The card (YtmodanjblbaedaaDoorCards.lean) ties it to the program's text. -/
def laid_roundelay_ops_operations {H : Type} : DataW H := .agg [.agg [.lit (.string [110, 111, 110, 101]), .agg [.lit (.int .i64 0), .lit (.int .i64 0), .lit (.int .i64 0)]], .agg [.lit (.string [101, 110, 113, 117, 101, 117, 101]), .agg [.lit (.int .i64 0), .lit (.int .i64 1023), .lit (.int .i64 0)]], .agg [.lit (.string [100, 101, 113, 117, 101, 117, 101]), .agg [.lit (.int .i64 0), .lit (.int .i64 0), .lit (.int .i64 0)]], .agg [.lit (.string [108, 101, 110, 103, 116, 104]), .agg [.lit (.int .i64 0), .lit (.int .i64 0), .lit (.int .i64 0)]], .agg [.lit (.string [103, 101, 116]), .agg [.lit (.int .i64 255), .lit (.int .i64 0), .lit (.int .i64 0)]], .agg [.lit (.string [112, 117, 116]), .agg [.lit (.int .i64 255), .lit (.int .i64 1023), .lit (.int .i64 0)]], .agg [.lit (.string [100, 101, 108, 101, 116, 101]), .agg [.lit (.int .i64 255), .lit (.int .i64 0), .lit (.int .i64 0)]], .agg [.lit (.string [115, 119, 97, 112]), .agg [.lit (.int .i64 255), .lit (.int .i64 1023), .lit (.int .i64 1023)]], .agg [.lit (.string [115, 105, 122, 101]), .agg [.lit (.int .i64 0), .lit (.int .i64 0), .lit (.int .i64 0)]], .agg [.lit (.string [102, 108, 111, 111, 114]), .agg [.lit (.int .i64 255), .lit (.int .i64 0), .lit (.int .i64 0)]], .agg [.lit (.string [115, 101, 116]), .agg [.lit (.int .i64 255), .lit (.int .i64 1023), .lit (.int .i64 0)]], .agg [.lit (.string [97, 99, 113, 117, 105, 114, 101]), .agg [.lit (.int .i64 255), .lit (.int .i64 0), .lit (.int .i64 0)]], .agg [.lit (.string [114, 101, 108, 101, 97, 115, 101]), .agg [.lit (.int .i64 255), .lit (.int .i64 0), .lit (.int .i64 0)]], .agg [.lit (.string [118, 97, 108, 117, 101]), .agg [.lit (.int .i64 255), .lit (.int .i64 0), .lit (.int .i64 0)]], .agg [.lit (.string [100, 114, 111, 112]), .agg [.lit (.int .i64 255), .lit (.int .i64 0), .lit (.int .i64 0)]]]

/-- 'roundelaylaw06.ModelPlays': WHATEVER THE INPUT: true; the input reads as it did. -/
def modelPlaysSpec : ChangeSpec := { name := "modelPlays", fn := fun _ => fun
  | [d] => { results := [.lit (.bool true)], args := [d] }
  | _ => none }
def modelPlaysRow : OpenClaim := { program := "ytmodanjblbaedaadoor", sum := "dc5982baaa403355864629f69c65784a2ec125d82f4cea821517c8d5eba624ed", func := "roundelay/roundelaylaw06.ModelPlays", spec := "modelPlays", inPlace := ["maps.clone"], unfollowed := true, recurses := true, named := ["roundelay/ops.operations"], apart := false, laid := [("roundelay/ops.operations", laid_roundelay_ops_operations)] }
def ModelPlaysSaid : Prop := modelPlaysRow.holds Tryd.pinned (OpenSpec.ofChange modelPlaysSpec)

/-- ITS FALSE NEIGHBOUR: 'it returns false'. Refute it at one input. -/
def modelPlaysWrong : ChangeSpec := { name := "modelPlays", fn := fun _ => fun
  | [d] => { results := [.lit (.bool false)], args := [d] }
  | _ => none }
def ModelPlaysWrongFalsely : Prop := modelPlaysRow.holds Tryd.pinned (OpenSpec.ofChange modelPlaysWrong)

/-- 'roundelaylaw06.ModelHolds': WHATEVER THE INPUT: true; the input reads as it did. -/
def modelHoldsSpec : ChangeSpec := { name := "modelHolds", fn := fun _ => fun
  | [d] => { results := [.lit (.bool true)], args := [d] }
  | _ => none }
def modelHoldsRow : OpenClaim := { program := "ytmodanjblbaedaadoor", sum := "dc5982baaa403355864629f69c65784a2ec125d82f4cea821517c8d5eba624ed", func := "roundelay/roundelaylaw06.ModelHolds", spec := "modelHolds", inPlace := ["maps.clone"], unfollowed := true, recurses := true, named := ["roundelay/ops.operations"], apart := false, laid := [("roundelay/ops.operations", laid_roundelay_ops_operations)] }
def ModelHoldsSaid : Prop := modelHoldsRow.holds Tryd.pinned (OpenSpec.ofChange modelHoldsSpec)

/-- ITS FALSE NEIGHBOUR: 'it returns false'. Refute it at one input. -/
def modelHoldsWrong : ChangeSpec := { name := "modelHolds", fn := fun _ => fun
  | [d] => { results := [.lit (.bool false)], args := [d] }
  | _ => none }
def ModelHoldsWrongFalsely : Prop := modelHoldsRow.holds Tryd.pinned (OpenSpec.ofChange modelHoldsWrong)

/-- 'roundelaylaw06.ModelApart': WHATEVER THE INPUT: true; the input reads as it did. -/
def modelApartSpec : ChangeSpec := { name := "modelApart", fn := fun _ => fun
  | [d1, d2, d3] => { results := [.lit (.bool true)], args := [d1, d2, d3] }
  | _ => none }
def modelApartRow : OpenClaim := { program := "ytmodanjblbaedaadoor", sum := "dc5982baaa403355864629f69c65784a2ec125d82f4cea821517c8d5eba624ed", func := "roundelay/roundelaylaw06.ModelApart", spec := "modelApart", inPlace := ["maps.clone"], unfollowed := true, recurses := true, named := ["roundelay/ops.operations"], apart := false, laid := [("roundelay/ops.operations", laid_roundelay_ops_operations)] }
def ModelApartSaid : Prop := modelApartRow.holds Tryd.pinned (OpenSpec.ofChange modelApartSpec)

/-- ITS FALSE NEIGHBOUR: 'it returns false'. Refute it at one input. -/
def modelApartWrong : ChangeSpec := { name := "modelApart", fn := fun _ => fun
  | [d1, d2, d3] => { results := [.lit (.bool false)], args := [d1, d2, d3] }
  | _ => none }
def ModelApartWrongFalsely : Prop := modelApartRow.holds Tryd.pinned (OpenSpec.ofChange modelApartWrong)

/- THE SECOND FORM. 'bulk': how many values and letters a reading holds, each counted each time it is reached (what is shared counts as often as it is met; a slice's spare places count too). A statement '..UptoSaid' is the law's where the arguments, and the package variables that the reading takes, are together of bulk at most 1048576: NARROWER than '..Said'. Prove '..Said' where nothing that the law and all that it calls make is longer than what came in: it says more and counts as full. Else prove '..UptoSaid'. A law counts once. -/
mutual
def uptoBulk {H : Type} : DataW H → Nat
  | .lit (.string bytes) => bytes.length + 1
  | .lit _ => 1
  | .nil => 1
  | .ptr d => uptoBulk d + 1
  | .slice elems spare => uptoBulkAll elems + uptoBulkAll spare + 1
  | .agg parts => uptoBulkAll parts + 1
  | .iface _ d => uptoBulk d + 1
  | .map entries => uptoBulkEntries entries + 1
  | .held _ => 1
def uptoBulkAll {H : Type} : List (DataW H) → Nat
  | [] => 0
  | d :: r => uptoBulk d + uptoBulkAll r
def uptoBulkEntries {H : Type} : List (Lit × DataW H) → Nat
  | [] => 0
  | x :: r => uptoBulkEntry x + uptoBulkEntries r
def uptoBulkEntry {H : Type} : Lit × DataW H → Nat
  | (.string bytes, d) => bytes.length + uptoBulk d + 1
  | (_, d) => uptoBulk d + 1
 end
def uptoSmall : (H : Type) → List (DataW H) → Bool := fun _ ds => decide (uptoBulkAll ds ≤ 1048576)
def OpenSpec.upto (s : _root_.Go.ChangeSpec) : _root_.Go.OpenSpec := { _root_.Go.OpenSpec.ofChange s with cond := some uptoSmall }

/-- 'roundelaylaw06.ModelPlays', WHERE WHAT IT READS IS OF BULK AT MOST 1048576: true; the input reads as it did. -/
def modelPlaysUptoRow : OpenClaim := { program := "ytmodanjblbaedaadoor", sum := "dc5982baaa403355864629f69c65784a2ec125d82f4cea821517c8d5eba624ed", func := "roundelay/roundelaylaw06.ModelPlays", spec := "modelPlays", inPlace := ["maps.clone"], unfollowed := true, recurses := true, named := ["roundelay/ops.operations"], apart := false, laid := [("roundelay/ops.operations", laid_roundelay_ops_operations)], narrowed := true }
def ModelPlaysUptoSaid : Prop := modelPlaysUptoRow.holds Tryd.pinned (OpenSpec.upto modelPlaysSpec)

/-- 'roundelaylaw06.ModelHolds', WHERE WHAT IT READS IS OF BULK AT MOST 1048576: true; the input reads as it did. -/
def modelHoldsUptoRow : OpenClaim := { program := "ytmodanjblbaedaadoor", sum := "dc5982baaa403355864629f69c65784a2ec125d82f4cea821517c8d5eba624ed", func := "roundelay/roundelaylaw06.ModelHolds", spec := "modelHolds", inPlace := ["maps.clone"], unfollowed := true, recurses := true, named := ["roundelay/ops.operations"], apart := false, laid := [("roundelay/ops.operations", laid_roundelay_ops_operations)], narrowed := true }
def ModelHoldsUptoSaid : Prop := modelHoldsUptoRow.holds Tryd.pinned (OpenSpec.upto modelHoldsSpec)

/-- 'roundelaylaw06.ModelApart', WHERE WHAT IT READS IS OF BULK AT MOST 1048576: true; the input reads as it did. -/
def modelApartUptoRow : OpenClaim := { program := "ytmodanjblbaedaadoor", sum := "dc5982baaa403355864629f69c65784a2ec125d82f4cea821517c8d5eba624ed", func := "roundelay/roundelaylaw06.ModelApart", spec := "modelApart", inPlace := ["maps.clone"], unfollowed := true, recurses := true, named := ["roundelay/ops.operations"], apart := false, laid := [("roundelay/ops.operations", laid_roundelay_ops_operations)], narrowed := true }
def ModelApartUptoSaid : Prop := modelApartUptoRow.holds Tryd.pinned (OpenSpec.upto modelApartSpec)

end Rows
end Go.Proofs.YtmodanjblbaedaaDoor
