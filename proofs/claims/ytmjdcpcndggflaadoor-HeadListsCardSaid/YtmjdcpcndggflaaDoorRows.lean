/-
  NARROWER THAN 'FOR EVERY INPUT', by the rows' own cells (each row's printed sentence says how): HeadPuts: laid · HeadReads: laid · HeadLists: laid · HeadBack: laid · HeadChains: laid.
  DERIVED. THE GIVEN ROWS OF THIS SEAT. 5 by the template 'for every input the law returns true; each argument reads behind the call as it read before'; 0 by the template 'total and deterministic' (their statements: YtmjdcpcndggflaaDoorTotals.lean).
  GIVEN WITH THE SEED: the statements are not yours to turn. If you find one false, say at which input.
  Laid BY PROGRAM, IN A SANDBOX (cutbox-rows.mjs): the forced cells as the released guide's own fill.sh prints them over the translation 015af3f60cd194c5… (all of the seat's roots in one cut). By AI agents, Wed Nov 11 2026. No macro, syntax, notation, axiom, sorry.
-/
import Derived.Test.YtmjdcpcndggflaaDoorChecked
import GoSem.Claim
import GoSem.ClaimJoined
import GoSem.ClaimMapViews
import Derived.JoinedTies
import Derived.KernelRfl
namespace Go.Proofs.YtmjdcpcndggflaaDoor
/- THE CELL 'sum', in the pinned program and in every row, IS THE sha256 OF THE DUMP (.gsa) THAT YtmjdcpcndggflaaDoorProg.lean LOADS. Nothing in Lean hashes anything: it is a label: what it is worth is what the hold of that sum in a sandbox is worth. -/
noncomputable def Tryd.pinned : Pinned := { name := "ytmjdcpcndggflaadoor", sum := "015af3f60cd194c5f772c068f0e2979367127569146786ee7765c0a3c533242b", checked := Tryd.checked }
namespace Rows
def none {H : Type} : Left H := { results := [], args := [] }

/- WHAT THE LISTED PACKAGE-LEVEL VARIABLES READ AS WHEN THE CALL BEGINS. Each datum BY PROGRAM (the guide's laid-datum.mjs) off the statement by which the dump's own 'gosem.cut.vars' lays the variable. In a bare row this is a premise. The card (YtmjdcpcndggflaaDoorCards.lean) ties it to the program's text. -/
def laid_roundelay_ops_responses {H : Type} : DataW H := .agg [.agg [.lit (.string [100, 111, 110, 101]), .agg [.lit (.int .i64 268435455), .lit (.int .i64 0), .lit (.int .i64 0)]], .agg [.lit (.string [110, 111, 110, 101]), .agg [.lit (.int .i64 0), .lit (.int .i64 0), .lit (.int .i64 0)]], .agg [.lit (.string [102, 117, 108, 108]), .agg [.lit (.int .i64 0), .lit (.int .i64 0), .lit (.int .i64 0)]], .agg [.lit (.string [98, 117, 115, 121]), .agg [.lit (.int .i64 0), .lit (.int .i64 0), .lit (.int .i64 0)]], .agg [.lit (.string [117, 110, 108, 105, 107, 101]), .agg [.lit (.int .i64 268435455), .lit (.int .i64 0), .lit (.int .i64 0)]], .agg [.lit (.string [110, 111, 109, 101, 109, 111, 114, 121]), .agg [.lit (.int .i64 0), .lit (.int .i64 0), .lit (.int .i64 0)]]]

/-- 'roundelaylaw09.HeadPuts': WHATEVER THE INPUT: true; the input reads as it did. -/
def headPutsSpec : ChangeSpec := { name := "headPuts", fn := fun _ => fun
  | [d1, d2, d3] => { results := [.lit (.bool true)], args := [d1, d2, d3] }
  | _ => none }
def headPutsRow : OpenClaim := { program := "ytmjdcpcndggflaadoor", sum := "015af3f60cd194c5f772c068f0e2979367127569146786ee7765c0a3c533242b", func := "roundelay/roundelaylaw09.HeadPuts", spec := "headPuts", unfollowed := true, recurses := true, named := ["roundelay/ops.responses"], apart := false, laid := [("roundelay/ops.responses", laid_roundelay_ops_responses)] }
def HeadPutsSaid : Prop := headPutsRow.holds Tryd.pinned (OpenSpec.ofChange headPutsSpec)

/-- ITS FALSE NEIGHBOUR: 'it returns false'. Refute it at one input. -/
def headPutsWrong : ChangeSpec := { name := "headPuts", fn := fun _ => fun
  | [d1, d2, d3] => { results := [.lit (.bool false)], args := [d1, d2, d3] }
  | _ => none }
def HeadPutsWrongFalsely : Prop := headPutsRow.holds Tryd.pinned (OpenSpec.ofChange headPutsWrong)

/-- 'roundelaylaw09.HeadReads': WHATEVER THE INPUT: true; the input reads as it did. -/
def headReadsSpec : ChangeSpec := { name := "headReads", fn := fun _ => fun
  | [d] => { results := [.lit (.bool true)], args := [d] }
  | _ => none }
def headReadsRow : OpenClaim := { program := "ytmjdcpcndggflaadoor", sum := "015af3f60cd194c5f772c068f0e2979367127569146786ee7765c0a3c533242b", func := "roundelay/roundelaylaw09.HeadReads", spec := "headReads", unfollowed := true, recurses := true, named := ["roundelay/ops.responses"], apart := false, laid := [("roundelay/ops.responses", laid_roundelay_ops_responses)] }
def HeadReadsSaid : Prop := headReadsRow.holds Tryd.pinned (OpenSpec.ofChange headReadsSpec)

/-- ITS FALSE NEIGHBOUR: 'it returns false'. Refute it at one input. -/
def headReadsWrong : ChangeSpec := { name := "headReads", fn := fun _ => fun
  | [d] => { results := [.lit (.bool false)], args := [d] }
  | _ => none }
def HeadReadsWrongFalsely : Prop := headReadsRow.holds Tryd.pinned (OpenSpec.ofChange headReadsWrong)

/-- 'roundelaylaw09.HeadLists': WHATEVER THE INPUT: true; the input reads as it did. -/
def headListsSpec : ChangeSpec := { name := "headLists", fn := fun _ => fun
  | [d1, d2] => { results := [.lit (.bool true)], args := [d1, d2] }
  | _ => none }
def headListsRow : OpenClaim := { program := "ytmjdcpcndggflaadoor", sum := "015af3f60cd194c5f772c068f0e2979367127569146786ee7765c0a3c533242b", func := "roundelay/roundelaylaw09.HeadLists", spec := "headLists", unfollowed := true, recurses := true, named := ["roundelay/ops.responses"], apart := false, laid := [("roundelay/ops.responses", laid_roundelay_ops_responses)] }
def HeadListsSaid : Prop := headListsRow.holds Tryd.pinned (OpenSpec.ofChange headListsSpec)

/-- ITS FALSE NEIGHBOUR: 'it returns false'. Refute it at one input. -/
def headListsWrong : ChangeSpec := { name := "headLists", fn := fun _ => fun
  | [d1, d2] => { results := [.lit (.bool false)], args := [d1, d2] }
  | _ => none }
def HeadListsWrongFalsely : Prop := headListsRow.holds Tryd.pinned (OpenSpec.ofChange headListsWrong)

/-- 'roundelaylaw09.HeadBack': WHATEVER THE INPUT: true; the input reads as it did. -/
def headBackSpec : ChangeSpec := { name := "headBack", fn := fun _ => fun
  | [d1, d2, d3] => { results := [.lit (.bool true)], args := [d1, d2, d3] }
  | _ => none }
def headBackRow : OpenClaim := { program := "ytmjdcpcndggflaadoor", sum := "015af3f60cd194c5f772c068f0e2979367127569146786ee7765c0a3c533242b", func := "roundelay/roundelaylaw09.HeadBack", spec := "headBack", unfollowed := true, recurses := true, named := ["roundelay/ops.responses"], apart := false, laid := [("roundelay/ops.responses", laid_roundelay_ops_responses)] }
def HeadBackSaid : Prop := headBackRow.holds Tryd.pinned (OpenSpec.ofChange headBackSpec)

/-- ITS FALSE NEIGHBOUR: 'it returns false'. Refute it at one input. -/
def headBackWrong : ChangeSpec := { name := "headBack", fn := fun _ => fun
  | [d1, d2, d3] => { results := [.lit (.bool false)], args := [d1, d2, d3] }
  | _ => none }
def HeadBackWrongFalsely : Prop := headBackRow.holds Tryd.pinned (OpenSpec.ofChange headBackWrong)

/-- 'roundelaylaw09.HeadChains': WHATEVER THE INPUT: true; the input reads as it did. -/
def headChainsSpec : ChangeSpec := { name := "headChains", fn := fun _ => fun
  | [d] => { results := [.lit (.bool true)], args := [d] }
  | _ => none }
def headChainsRow : OpenClaim := { program := "ytmjdcpcndggflaadoor", sum := "015af3f60cd194c5f772c068f0e2979367127569146786ee7765c0a3c533242b", func := "roundelay/roundelaylaw09.HeadChains", spec := "headChains", unfollowed := true, recurses := true, named := ["roundelay/ops.responses"], apart := false, laid := [("roundelay/ops.responses", laid_roundelay_ops_responses)] }
def HeadChainsSaid : Prop := headChainsRow.holds Tryd.pinned (OpenSpec.ofChange headChainsSpec)

/-- ITS FALSE NEIGHBOUR: 'it returns false'. Refute it at one input. -/
def headChainsWrong : ChangeSpec := { name := "headChains", fn := fun _ => fun
  | [d] => { results := [.lit (.bool false)], args := [d] }
  | _ => none }
def HeadChainsWrongFalsely : Prop := headChainsRow.holds Tryd.pinned (OpenSpec.ofChange headChainsWrong)

/- THE SECOND FORM. 'bulk': how many values and letters a reading holds, each counted each time it is reached (what is shared counts as often as it is met; a slice's spare places count too). A statement '..UptoSaid' is the law's where the arguments, and the package variables that the reading takes, are together of bulk at most 1048576: NARROWER than '..Said'. Prove '..Said' where nothing that the law and all that it calls make is longer than what came in: it says more and counts as full. Else prove '..UptoSaid'. A law counts once. -/
mutual
def uptoBulk {H : Type} : DataW H → Nat
  | .lit (.string bytes) => bytes.length + 1
  | .lit _ => 1
  | .nil => 1
  | .ptr d => uptoBulk d + 1
  | .slice elems spare => uptoBulkAll elems + uptoBulkAll spare + 1
  | .agg parts => uptoBulkAll parts + 1
  | .iface _ d => uptoBulk d + 1
  | .map entries => uptoBulkEntries entries + 1
  | .held _ => 1
def uptoBulkAll {H : Type} : List (DataW H) → Nat
  | [] => 0
  | d :: r => uptoBulk d + uptoBulkAll r
def uptoBulkEntries {H : Type} : List (Lit × DataW H) → Nat
  | [] => 0
  | x :: r => uptoBulkEntry x + uptoBulkEntries r
def uptoBulkEntry {H : Type} : Lit × DataW H → Nat
  | (.string bytes, d) => bytes.length + uptoBulk d + 1
  | (_, d) => uptoBulk d + 1
 end
def uptoSmall : (H : Type) → List (DataW H) → Bool := fun _ ds => decide (uptoBulkAll ds ≤ 1048576)
def OpenSpec.upto (s : _root_.Go.ChangeSpec) : _root_.Go.OpenSpec := { _root_.Go.OpenSpec.ofChange s with cond := some uptoSmall }

/-- 'roundelaylaw09.HeadPuts', WHERE WHAT IT READS IS OF BULK AT MOST 1048576: true; the input reads as it did. -/
def headPutsUptoRow : OpenClaim := { program := "ytmjdcpcndggflaadoor", sum := "015af3f60cd194c5f772c068f0e2979367127569146786ee7765c0a3c533242b", func := "roundelay/roundelaylaw09.HeadPuts", spec := "headPuts", unfollowed := true, recurses := true, named := ["roundelay/ops.responses"], apart := false, laid := [("roundelay/ops.responses", laid_roundelay_ops_responses)], narrowed := true }
def HeadPutsUptoSaid : Prop := headPutsUptoRow.holds Tryd.pinned (OpenSpec.upto headPutsSpec)

/-- 'roundelaylaw09.HeadReads', WHERE WHAT IT READS IS OF BULK AT MOST 1048576: true; the input reads as it did. -/
def headReadsUptoRow : OpenClaim := { program := "ytmjdcpcndggflaadoor", sum := "015af3f60cd194c5f772c068f0e2979367127569146786ee7765c0a3c533242b", func := "roundelay/roundelaylaw09.HeadReads", spec := "headReads", unfollowed := true, recurses := true, named := ["roundelay/ops.responses"], apart := false, laid := [("roundelay/ops.responses", laid_roundelay_ops_responses)], narrowed := true }
def HeadReadsUptoSaid : Prop := headReadsUptoRow.holds Tryd.pinned (OpenSpec.upto headReadsSpec)

/-- 'roundelaylaw09.HeadLists', WHERE WHAT IT READS IS OF BULK AT MOST 1048576: true; the input reads as it did. -/
def headListsUptoRow : OpenClaim := { program := "ytmjdcpcndggflaadoor", sum := "015af3f60cd194c5f772c068f0e2979367127569146786ee7765c0a3c533242b", func := "roundelay/roundelaylaw09.HeadLists", spec := "headLists", unfollowed := true, recurses := true, named := ["roundelay/ops.responses"], apart := false, laid := [("roundelay/ops.responses", laid_roundelay_ops_responses)], narrowed := true }
def HeadListsUptoSaid : Prop := headListsUptoRow.holds Tryd.pinned (OpenSpec.upto headListsSpec)

/-- 'roundelaylaw09.HeadBack', WHERE WHAT IT READS IS OF BULK AT MOST 1048576: true; the input reads as it did. -/
def headBackUptoRow : OpenClaim := { program := "ytmjdcpcndggflaadoor", sum := "015af3f60cd194c5f772c068f0e2979367127569146786ee7765c0a3c533242b", func := "roundelay/roundelaylaw09.HeadBack", spec := "headBack", unfollowed := true, recurses := true, named := ["roundelay/ops.responses"], apart := false, laid := [("roundelay/ops.responses", laid_roundelay_ops_responses)], narrowed := true }
def HeadBackUptoSaid : Prop := headBackUptoRow.holds Tryd.pinned (OpenSpec.upto headBackSpec)

/-- 'roundelaylaw09.HeadChains', WHERE WHAT IT READS IS OF BULK AT MOST 1048576: true; the input reads as it did. -/
def headChainsUptoRow : OpenClaim := { program := "ytmjdcpcndggflaadoor", sum := "015af3f60cd194c5f772c068f0e2979367127569146786ee7765c0a3c533242b", func := "roundelay/roundelaylaw09.HeadChains", spec := "headChains", unfollowed := true, recurses := true, named := ["roundelay/ops.responses"], apart := false, laid := [("roundelay/ops.responses", laid_roundelay_ops_responses)], narrowed := true }
def HeadChainsUptoSaid : Prop := headChainsUptoRow.holds Tryd.pinned (OpenSpec.upto headChainsSpec)

end Rows
end Go.Proofs.YtmjdcpcndggflaaDoor
