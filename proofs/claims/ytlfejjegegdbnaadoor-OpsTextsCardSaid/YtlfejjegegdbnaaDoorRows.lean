/-
  NARROWER THAN 'FOR EVERY INPUT', by the rows' own cells (each row's printed sentence says how): OpsPack: laid · OpsUnpack: laid · OpsTexts: laid · OpsBack: laid.
  DERIVED. THE GIVEN ROWS OF THIS SEAT. 4 by the template 'for every input the law returns true; each argument reads behind the call as it read before'; 0 by the template 'total and deterministic' (their statements: YtlfejjegegdbnaaDoorTotals.lean).
  GIVEN WITH THE SEED: the statements are not yours to turn. If you find one false, say at which input.
  Laid BY PROGRAM, IN A SANDBOX (cutbox-rows.mjs): the forced cells as the released guide's own fill.sh prints them over the translation efb4d51e0c770a58… (all of the seat's roots in one cut). By AI agents, Wed Nov 11 2026. No macro, syntax, notation, axiom, sorry.
-/
import Derived.Test.YtlfejjegegdbnaaDoorChecked
import GoSem.Claim
import GoSem.ClaimJoined
import GoSem.ClaimMapViews
import Derived.JoinedTies
import Derived.KernelRfl
namespace Go.Proofs.YtlfejjegegdbnaaDoor
/- THE CELL 'sum', in the pinned program and in every row, IS THE sha256 OF THE DUMP (.gsa) THAT YtlfejjegegdbnaaDoorProg.lean LOADS. Nothing in Lean hashes anything: it is a label: what it is worth is what the hold of that sum in a sandbox is worth. -/
noncomputable def Tryd.pinned : Pinned := { name := "ytlfejjegegdbnaadoor", sum := "efb4d51e0c770a587cdcf3b06df1537c7e76963a036163098f68eaea7322ce5d", checked := Tryd.checked }
namespace Rows
def none {H : Type} : Left H := { results := [], args := [] }

/- WHAT THE LISTED PACKAGE-LEVEL VARIABLES READ AS WHEN THE CALL BEGINS. Each datum BY PROGRAM (the guide's laid-datum.mjs) off the statement by which the dump's own 'gosem.cut.vars' lays the variable. In a bare row this is a premise. The card (YtlfejjegegdbnaaDoorCards.lean) ties it to the program's text. -/
def laid_math_bits_deBruijn32tab {H : Type} : DataW H := .agg [.lit (.int .u8 0), .lit (.int .u8 1), .lit (.int .u8 28), .lit (.int .u8 2), .lit (.int .u8 29), .lit (.int .u8 14), .lit (.int .u8 24), .lit (.int .u8 3), .lit (.int .u8 30), .lit (.int .u8 22), .lit (.int .u8 20), .lit (.int .u8 15), .lit (.int .u8 25), .lit (.int .u8 17), .lit (.int .u8 4), .lit (.int .u8 8), .lit (.int .u8 31), .lit (.int .u8 27), .lit (.int .u8 13), .lit (.int .u8 23), .lit (.int .u8 21), .lit (.int .u8 19), .lit (.int .u8 16), .lit (.int .u8 7), .lit (.int .u8 26), .lit (.int .u8 12), .lit (.int .u8 18), .lit (.int .u8 6), .lit (.int .u8 11), .lit (.int .u8 5), .lit (.int .u8 10), .lit (.int .u8 9)]
def laid_math_bits_deBruijn64tab {H : Type} : DataW H := .agg [.lit (.int .u8 0), .lit (.int .u8 1), .lit (.int .u8 56), .lit (.int .u8 2), .lit (.int .u8 57), .lit (.int .u8 49), .lit (.int .u8 28), .lit (.int .u8 3), .lit (.int .u8 61), .lit (.int .u8 58), .lit (.int .u8 42), .lit (.int .u8 50), .lit (.int .u8 38), .lit (.int .u8 29), .lit (.int .u8 17), .lit (.int .u8 4), .lit (.int .u8 62), .lit (.int .u8 47), .lit (.int .u8 59), .lit (.int .u8 36), .lit (.int .u8 45), .lit (.int .u8 43), .lit (.int .u8 51), .lit (.int .u8 22), .lit (.int .u8 53), .lit (.int .u8 39), .lit (.int .u8 33), .lit (.int .u8 30), .lit (.int .u8 24), .lit (.int .u8 18), .lit (.int .u8 12), .lit (.int .u8 5), .lit (.int .u8 63), .lit (.int .u8 55), .lit (.int .u8 48), .lit (.int .u8 27), .lit (.int .u8 60), .lit (.int .u8 41), .lit (.int .u8 37), .lit (.int .u8 16), .lit (.int .u8 46), .lit (.int .u8 35), .lit (.int .u8 44), .lit (.int .u8 21), .lit (.int .u8 52), .lit (.int .u8 32), .lit (.int .u8 23), .lit (.int .u8 11), .lit (.int .u8 54), .lit (.int .u8 26), .lit (.int .u8 40), .lit (.int .u8 15), .lit (.int .u8 34), .lit (.int .u8 20), .lit (.int .u8 31), .lit (.int .u8 10), .lit (.int .u8 25), .lit (.int .u8 14), .lit (.int .u8 19), .lit (.int .u8 9), .lit (.int .u8 13), .lit (.int .u8 8), .lit (.int .u8 7), .lit (.int .u8 6)]
def laid_internal_strconv_uint64pow10 {H : Type} : DataW H := .agg [.lit (.int .u64 1), .lit (.int .u64 10), .lit (.int .u64 100), .lit (.int .u64 1000), .lit (.int .u64 10000), .lit (.int .u64 100000), .lit (.int .u64 1000000), .lit (.int .u64 10000000), .lit (.int .u64 100000000), .lit (.int .u64 1000000000), .lit (.int .u64 10000000000), .lit (.int .u64 100000000000), .lit (.int .u64 1000000000000), .lit (.int .u64 10000000000000), .lit (.int .u64 100000000000000), .lit (.int .u64 1000000000000000), .lit (.int .u64 10000000000000000), .lit (.int .u64 100000000000000000), .lit (.int .u64 1000000000000000000), .lit (.int .u64 10000000000000000000)]
def laid_strconv_ErrRange {H : Type} : DataW H := .iface "*errors.errorString" (.ptr (.agg [.lit (.string [118, 97, 108, 117, 101, 32, 111, 117, 116, 32, 111, 102, 32, 114, 97, 110, 103, 101])]))
def laid_strconv_ErrSyntax {H : Type} : DataW H := .iface "*errors.errorString" (.ptr (.agg [.lit (.string [105, 110, 118, 97, 108, 105, 100, 32, 115, 121, 110, 116, 97, 120])]))
def laid_roundelay_ops_operations {H : Type} : DataW H := .agg [.agg [.lit (.string [110, 111, 110, 101]), .agg [.lit (.int .i64 0), .lit (.int .i64 0), .lit (.int .i64 0)]], .agg [.lit (.string [101, 110, 113, 117, 101, 117, 101]), .agg [.lit (.int .i64 0), .lit (.int .i64 1023), .lit (.int .i64 0)]], .agg [.lit (.string [100, 101, 113, 117, 101, 117, 101]), .agg [.lit (.int .i64 0), .lit (.int .i64 0), .lit (.int .i64 0)]], .agg [.lit (.string [108, 101, 110, 103, 116, 104]), .agg [.lit (.int .i64 0), .lit (.int .i64 0), .lit (.int .i64 0)]], .agg [.lit (.string [103, 101, 116]), .agg [.lit (.int .i64 255), .lit (.int .i64 0), .lit (.int .i64 0)]], .agg [.lit (.string [112, 117, 116]), .agg [.lit (.int .i64 255), .lit (.int .i64 1023), .lit (.int .i64 0)]], .agg [.lit (.string [100, 101, 108, 101, 116, 101]), .agg [.lit (.int .i64 255), .lit (.int .i64 0), .lit (.int .i64 0)]], .agg [.lit (.string [115, 119, 97, 112]), .agg [.lit (.int .i64 255), .lit (.int .i64 1023), .lit (.int .i64 1023)]], .agg [.lit (.string [115, 105, 122, 101]), .agg [.lit (.int .i64 0), .lit (.int .i64 0), .lit (.int .i64 0)]], .agg [.lit (.string [102, 108, 111, 111, 114]), .agg [.lit (.int .i64 255), .lit (.int .i64 0), .lit (.int .i64 0)]], .agg [.lit (.string [115, 101, 116]), .agg [.lit (.int .i64 255), .lit (.int .i64 1023), .lit (.int .i64 0)]], .agg [.lit (.string [97, 99, 113, 117, 105, 114, 101]), .agg [.lit (.int .i64 255), .lit (.int .i64 0), .lit (.int .i64 0)]], .agg [.lit (.string [114, 101, 108, 101, 97, 115, 101]), .agg [.lit (.int .i64 255), .lit (.int .i64 0), .lit (.int .i64 0)]], .agg [.lit (.string [118, 97, 108, 117, 101]), .agg [.lit (.int .i64 255), .lit (.int .i64 0), .lit (.int .i64 0)]], .agg [.lit (.string [100, 114, 111, 112]), .agg [.lit (.int .i64 255), .lit (.int .i64 0), .lit (.int .i64 0)]]]
def laid_roundelay_ops_responses {H : Type} : DataW H := .agg [.agg [.lit (.string [100, 111, 110, 101]), .agg [.lit (.int .i64 268435455), .lit (.int .i64 0), .lit (.int .i64 0)]], .agg [.lit (.string [110, 111, 110, 101]), .agg [.lit (.int .i64 0), .lit (.int .i64 0), .lit (.int .i64 0)]], .agg [.lit (.string [102, 117, 108, 108]), .agg [.lit (.int .i64 0), .lit (.int .i64 0), .lit (.int .i64 0)]], .agg [.lit (.string [98, 117, 115, 121]), .agg [.lit (.int .i64 0), .lit (.int .i64 0), .lit (.int .i64 0)]], .agg [.lit (.string [117, 110, 108, 105, 107, 101]), .agg [.lit (.int .i64 268435455), .lit (.int .i64 0), .lit (.int .i64 0)]], .agg [.lit (.string [110, 111, 109, 101, 109, 111, 114, 121]), .agg [.lit (.int .i64 0), .lit (.int .i64 0), .lit (.int .i64 0)]]]

/-- 'roundelaylaw05.OpsPack': WHATEVER THE INPUT: true; the input reads as it did. -/
def opsPackSpec : ChangeSpec := { name := "opsPack", fn := fun _ => fun
  | [d1, d2] => { results := [.lit (.bool true)], args := [d1, d2] }
  | _ => none }
def opsPackRow : OpenClaim := { program := "ytlfejjegegdbnaadoor", sum := "efb4d51e0c770a587cdcf3b06df1537c7e76963a036163098f68eaea7322ce5d", func := "roundelay/roundelaylaw05.OpsPack", spec := "opsPack", inPlace := ["internal/bytealg.IndexByteString", "internal/bytealg.IndexString"], unfollowed := true, recurses := true, named := ["roundelay/ops.operations", "internal/bytealg.MaxLen", "strconv.ErrSyntax", "strconv.ErrRange", "internal/strconv.uint64pow10", "math/bits.deBruijn32tab", "math/bits.deBruijn64tab", "roundelay/ops.responses"], apart := false, laid := [("math/bits.deBruijn32tab", laid_math_bits_deBruijn32tab), ("math/bits.deBruijn64tab", laid_math_bits_deBruijn64tab), ("internal/strconv.uint64pow10", laid_internal_strconv_uint64pow10), ("strconv.ErrRange", laid_strconv_ErrRange), ("strconv.ErrSyntax", laid_strconv_ErrSyntax), ("roundelay/ops.operations", laid_roundelay_ops_operations), ("roundelay/ops.responses", laid_roundelay_ops_responses)] }
def OpsPackSaid : Prop := opsPackRow.holds Tryd.pinned (OpenSpec.ofChange opsPackSpec)

/-- ITS FALSE NEIGHBOUR: 'it returns false'. Refute it at one input. -/
def opsPackWrong : ChangeSpec := { name := "opsPack", fn := fun _ => fun
  | [d1, d2] => { results := [.lit (.bool false)], args := [d1, d2] }
  | _ => none }
def OpsPackWrongFalsely : Prop := opsPackRow.holds Tryd.pinned (OpenSpec.ofChange opsPackWrong)

/-- 'roundelaylaw05.OpsUnpack': WHATEVER THE INPUT: true; the input reads as it did. -/
def opsUnpackSpec : ChangeSpec := { name := "opsUnpack", fn := fun _ => fun
  | [d] => { results := [.lit (.bool true)], args := [d] }
  | _ => none }
def opsUnpackRow : OpenClaim := { program := "ytlfejjegegdbnaadoor", sum := "efb4d51e0c770a587cdcf3b06df1537c7e76963a036163098f68eaea7322ce5d", func := "roundelay/roundelaylaw05.OpsUnpack", spec := "opsUnpack", inPlace := ["internal/bytealg.IndexByteString", "internal/bytealg.IndexString"], unfollowed := true, recurses := true, named := ["roundelay/ops.operations", "internal/bytealg.MaxLen", "strconv.ErrSyntax", "strconv.ErrRange", "internal/strconv.uint64pow10", "math/bits.deBruijn32tab", "math/bits.deBruijn64tab", "roundelay/ops.responses"], apart := false, laid := [("math/bits.deBruijn32tab", laid_math_bits_deBruijn32tab), ("math/bits.deBruijn64tab", laid_math_bits_deBruijn64tab), ("internal/strconv.uint64pow10", laid_internal_strconv_uint64pow10), ("strconv.ErrRange", laid_strconv_ErrRange), ("strconv.ErrSyntax", laid_strconv_ErrSyntax), ("roundelay/ops.operations", laid_roundelay_ops_operations), ("roundelay/ops.responses", laid_roundelay_ops_responses)] }
def OpsUnpackSaid : Prop := opsUnpackRow.holds Tryd.pinned (OpenSpec.ofChange opsUnpackSpec)

/-- ITS FALSE NEIGHBOUR: 'it returns false'. Refute it at one input. -/
def opsUnpackWrong : ChangeSpec := { name := "opsUnpack", fn := fun _ => fun
  | [d] => { results := [.lit (.bool false)], args := [d] }
  | _ => none }
def OpsUnpackWrongFalsely : Prop := opsUnpackRow.holds Tryd.pinned (OpenSpec.ofChange opsUnpackWrong)

/-- 'roundelaylaw05.OpsTexts': WHATEVER THE INPUT: true; the input reads as it did. -/
def opsTextsSpec : ChangeSpec := { name := "opsTexts", fn := fun _ => fun
  | [d1, d2, d3] => { results := [.lit (.bool true)], args := [d1, d2, d3] }
  | _ => none }
def opsTextsRow : OpenClaim := { program := "ytlfejjegegdbnaadoor", sum := "efb4d51e0c770a587cdcf3b06df1537c7e76963a036163098f68eaea7322ce5d", func := "roundelay/roundelaylaw05.OpsTexts", spec := "opsTexts", inPlace := ["internal/bytealg.IndexByteString", "internal/bytealg.IndexString"], unfollowed := true, recurses := true, named := ["roundelay/ops.operations", "internal/bytealg.MaxLen", "strconv.ErrSyntax", "strconv.ErrRange", "internal/strconv.uint64pow10", "math/bits.deBruijn32tab", "math/bits.deBruijn64tab", "roundelay/ops.responses"], apart := false, laid := [("math/bits.deBruijn32tab", laid_math_bits_deBruijn32tab), ("math/bits.deBruijn64tab", laid_math_bits_deBruijn64tab), ("internal/strconv.uint64pow10", laid_internal_strconv_uint64pow10), ("strconv.ErrRange", laid_strconv_ErrRange), ("strconv.ErrSyntax", laid_strconv_ErrSyntax), ("roundelay/ops.operations", laid_roundelay_ops_operations), ("roundelay/ops.responses", laid_roundelay_ops_responses)] }
def OpsTextsSaid : Prop := opsTextsRow.holds Tryd.pinned (OpenSpec.ofChange opsTextsSpec)

/-- ITS FALSE NEIGHBOUR: 'it returns false'. Refute it at one input. -/
def opsTextsWrong : ChangeSpec := { name := "opsTexts", fn := fun _ => fun
  | [d1, d2, d3] => { results := [.lit (.bool false)], args := [d1, d2, d3] }
  | _ => none }
def OpsTextsWrongFalsely : Prop := opsTextsRow.holds Tryd.pinned (OpenSpec.ofChange opsTextsWrong)

/-- 'roundelaylaw05.OpsBack': WHATEVER THE INPUT: true; the input reads as it did. -/
def opsBackSpec : ChangeSpec := { name := "opsBack", fn := fun _ => fun
  | [d1, d2, d3] => { results := [.lit (.bool true)], args := [d1, d2, d3] }
  | _ => none }
def opsBackRow : OpenClaim := { program := "ytlfejjegegdbnaadoor", sum := "efb4d51e0c770a587cdcf3b06df1537c7e76963a036163098f68eaea7322ce5d", func := "roundelay/roundelaylaw05.OpsBack", spec := "opsBack", inPlace := ["internal/bytealg.IndexByteString", "internal/bytealg.IndexString"], unfollowed := true, recurses := true, named := ["roundelay/ops.operations", "internal/bytealg.MaxLen", "strconv.ErrSyntax", "strconv.ErrRange", "internal/strconv.uint64pow10", "math/bits.deBruijn32tab", "math/bits.deBruijn64tab", "roundelay/ops.responses"], apart := false, laid := [("math/bits.deBruijn32tab", laid_math_bits_deBruijn32tab), ("math/bits.deBruijn64tab", laid_math_bits_deBruijn64tab), ("internal/strconv.uint64pow10", laid_internal_strconv_uint64pow10), ("strconv.ErrRange", laid_strconv_ErrRange), ("strconv.ErrSyntax", laid_strconv_ErrSyntax), ("roundelay/ops.operations", laid_roundelay_ops_operations), ("roundelay/ops.responses", laid_roundelay_ops_responses)] }
def OpsBackSaid : Prop := opsBackRow.holds Tryd.pinned (OpenSpec.ofChange opsBackSpec)

/-- ITS FALSE NEIGHBOUR: 'it returns false'. Refute it at one input. -/
def opsBackWrong : ChangeSpec := { name := "opsBack", fn := fun _ => fun
  | [d1, d2, d3] => { results := [.lit (.bool false)], args := [d1, d2, d3] }
  | _ => none }
def OpsBackWrongFalsely : Prop := opsBackRow.holds Tryd.pinned (OpenSpec.ofChange opsBackWrong)

/- THE SECOND FORM. 'bulk': how many values and letters a reading holds, each counted each time it is reached (what is shared counts as often as it is met; a slice's spare places count too). A statement '..UptoSaid' is the law's where the arguments, and the package variables that the reading takes, are together of bulk at most 1048576: NARROWER than '..Said'. Prove '..Said' where nothing that the law and all that it calls make is longer than what came in: it says more and counts as full. Else prove '..UptoSaid'. A law counts once. -/
mutual
def uptoBulk {H : Type} : DataW H → Nat
  | .lit (.string bytes) => bytes.length + 1
  | .lit _ => 1
  | .nil => 1
  | .ptr d => uptoBulk d + 1
  | .slice elems spare => uptoBulkAll elems + uptoBulkAll spare + 1
  | .agg parts => uptoBulkAll parts + 1
  | .iface _ d => uptoBulk d + 1
  | .map entries => uptoBulkEntries entries + 1
  | .held _ => 1
def uptoBulkAll {H : Type} : List (DataW H) → Nat
  | [] => 0
  | d :: r => uptoBulk d + uptoBulkAll r
def uptoBulkEntries {H : Type} : List (Lit × DataW H) → Nat
  | [] => 0
  | x :: r => uptoBulkEntry x + uptoBulkEntries r
def uptoBulkEntry {H : Type} : Lit × DataW H → Nat
  | (.string bytes, d) => bytes.length + uptoBulk d + 1
  | (_, d) => uptoBulk d + 1
 end
def uptoSmall : (H : Type) → List (DataW H) → Bool := fun _ ds => decide (uptoBulkAll ds ≤ 1048576)
def OpenSpec.upto (s : _root_.Go.ChangeSpec) : _root_.Go.OpenSpec := { _root_.Go.OpenSpec.ofChange s with cond := some uptoSmall }

/-- 'roundelaylaw05.OpsPack', WHERE WHAT IT READS IS OF BULK AT MOST 1048576: true; the input reads as it did. -/
def opsPackUptoRow : OpenClaim := { program := "ytlfejjegegdbnaadoor", sum := "efb4d51e0c770a587cdcf3b06df1537c7e76963a036163098f68eaea7322ce5d", func := "roundelay/roundelaylaw05.OpsPack", spec := "opsPack", inPlace := ["internal/bytealg.IndexByteString", "internal/bytealg.IndexString"], unfollowed := true, recurses := true, named := ["roundelay/ops.operations", "internal/bytealg.MaxLen", "strconv.ErrSyntax", "strconv.ErrRange", "internal/strconv.uint64pow10", "math/bits.deBruijn32tab", "math/bits.deBruijn64tab", "roundelay/ops.responses"], apart := false, laid := [("math/bits.deBruijn32tab", laid_math_bits_deBruijn32tab), ("math/bits.deBruijn64tab", laid_math_bits_deBruijn64tab), ("internal/strconv.uint64pow10", laid_internal_strconv_uint64pow10), ("strconv.ErrRange", laid_strconv_ErrRange), ("strconv.ErrSyntax", laid_strconv_ErrSyntax), ("roundelay/ops.operations", laid_roundelay_ops_operations), ("roundelay/ops.responses", laid_roundelay_ops_responses)], narrowed := true }
def OpsPackUptoSaid : Prop := opsPackUptoRow.holds Tryd.pinned (OpenSpec.upto opsPackSpec)

/-- 'roundelaylaw05.OpsUnpack', WHERE WHAT IT READS IS OF BULK AT MOST 1048576: true; the input reads as it did. -/
def opsUnpackUptoRow : OpenClaim := { program := "ytlfejjegegdbnaadoor", sum := "efb4d51e0c770a587cdcf3b06df1537c7e76963a036163098f68eaea7322ce5d", func := "roundelay/roundelaylaw05.OpsUnpack", spec := "opsUnpack", inPlace := ["internal/bytealg.IndexByteString", "internal/bytealg.IndexString"], unfollowed := true, recurses := true, named := ["roundelay/ops.operations", "internal/bytealg.MaxLen", "strconv.ErrSyntax", "strconv.ErrRange", "internal/strconv.uint64pow10", "math/bits.deBruijn32tab", "math/bits.deBruijn64tab", "roundelay/ops.responses"], apart := false, laid := [("math/bits.deBruijn32tab", laid_math_bits_deBruijn32tab), ("math/bits.deBruijn64tab", laid_math_bits_deBruijn64tab), ("internal/strconv.uint64pow10", laid_internal_strconv_uint64pow10), ("strconv.ErrRange", laid_strconv_ErrRange), ("strconv.ErrSyntax", laid_strconv_ErrSyntax), ("roundelay/ops.operations", laid_roundelay_ops_operations), ("roundelay/ops.responses", laid_roundelay_ops_responses)], narrowed := true }
def OpsUnpackUptoSaid : Prop := opsUnpackUptoRow.holds Tryd.pinned (OpenSpec.upto opsUnpackSpec)

/-- 'roundelaylaw05.OpsTexts', WHERE WHAT IT READS IS OF BULK AT MOST 1048576: true; the input reads as it did. -/
def opsTextsUptoRow : OpenClaim := { program := "ytlfejjegegdbnaadoor", sum := "efb4d51e0c770a587cdcf3b06df1537c7e76963a036163098f68eaea7322ce5d", func := "roundelay/roundelaylaw05.OpsTexts", spec := "opsTexts", inPlace := ["internal/bytealg.IndexByteString", "internal/bytealg.IndexString"], unfollowed := true, recurses := true, named := ["roundelay/ops.operations", "internal/bytealg.MaxLen", "strconv.ErrSyntax", "strconv.ErrRange", "internal/strconv.uint64pow10", "math/bits.deBruijn32tab", "math/bits.deBruijn64tab", "roundelay/ops.responses"], apart := false, laid := [("math/bits.deBruijn32tab", laid_math_bits_deBruijn32tab), ("math/bits.deBruijn64tab", laid_math_bits_deBruijn64tab), ("internal/strconv.uint64pow10", laid_internal_strconv_uint64pow10), ("strconv.ErrRange", laid_strconv_ErrRange), ("strconv.ErrSyntax", laid_strconv_ErrSyntax), ("roundelay/ops.operations", laid_roundelay_ops_operations), ("roundelay/ops.responses", laid_roundelay_ops_responses)], narrowed := true }
def OpsTextsUptoSaid : Prop := opsTextsUptoRow.holds Tryd.pinned (OpenSpec.upto opsTextsSpec)

/-- 'roundelaylaw05.OpsBack', WHERE WHAT IT READS IS OF BULK AT MOST 1048576: true; the input reads as it did. -/
def opsBackUptoRow : OpenClaim := { program := "ytlfejjegegdbnaadoor", sum := "efb4d51e0c770a587cdcf3b06df1537c7e76963a036163098f68eaea7322ce5d", func := "roundelay/roundelaylaw05.OpsBack", spec := "opsBack", inPlace := ["internal/bytealg.IndexByteString", "internal/bytealg.IndexString"], unfollowed := true, recurses := true, named := ["roundelay/ops.operations", "internal/bytealg.MaxLen", "strconv.ErrSyntax", "strconv.ErrRange", "internal/strconv.uint64pow10", "math/bits.deBruijn32tab", "math/bits.deBruijn64tab", "roundelay/ops.responses"], apart := false, laid := [("math/bits.deBruijn32tab", laid_math_bits_deBruijn32tab), ("math/bits.deBruijn64tab", laid_math_bits_deBruijn64tab), ("internal/strconv.uint64pow10", laid_internal_strconv_uint64pow10), ("strconv.ErrRange", laid_strconv_ErrRange), ("strconv.ErrSyntax", laid_strconv_ErrSyntax), ("roundelay/ops.operations", laid_roundelay_ops_operations), ("roundelay/ops.responses", laid_roundelay_ops_responses)], narrowed := true }
def OpsBackUptoSaid : Prop := opsBackUptoRow.holds Tryd.pinned (OpenSpec.upto opsBackSpec)

end Rows
end Go.Proofs.YtlfejjegegdbnaaDoor
