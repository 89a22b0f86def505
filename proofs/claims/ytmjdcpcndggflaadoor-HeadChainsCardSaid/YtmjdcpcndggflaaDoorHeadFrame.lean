/- From what the rows of layer 9 list to what the walks know; numbers, versions, entries as arguments. -/
import Derived.Test.YtmjdcpcndggflaaDoorHeadMem
import Derived.Test.YtmjdcpcndggflaaDoorHeadOps
import Derived.Test.YtmjdcpcndggflaaDoorCards
import Derived.Test.YtmjdcpcndggflaaDoorTie
import Derived.ProofKit
import Derived.LaidMore
import Derived.OpenShut
import Derived.Stop.Joined
import Derived.Stop.LaidErr
import Derived.Deep.DeepHandedRow
import Derived.Deep.DeepWitnessRowRef
import Derived.Deep.Slices
import Derived.Deep.Fields
import Derived.ChangeSame
import Derived.Lib.LaidTab
import Derived.Lib.SmallJoins
import Derived.SevenTiedAt
set_option linter.unusedVariables false
set_option linter.unusedSimpArgs false
namespace Go.Proofs.YtmjdcpcndggflaaDoor
namespace Hed
open Go.ChangeShapes Go.WideShapes Go.ChangeAt Go.RowKit Go.Joins Go.Lib Go.Deep Arn

theorem laidOut : laidOutB Tryd.prog = true := by kernel_rfl
theorem own : ownKnob Tryd.prog.godebug = none := by kernel_rfl
theorem g_resps : Tryd.prog.globalNamed "roundelay/ops.responses" = some 0 := by kernel_rfl
/-- The list of the rows. -/
def laidL : List (String × DataW Unit) := [("roundelay/ops.responses", Rows.laid_roundelay_ops_responses)]
theorem resps_form : (Rows.laid_roundelay_ops_responses : DataW Unit) = Ops.tabForm Ops.respT := by kernel_rfl
theorem of_laid {W : World} (h : laidMetH Tryd.prog laidL W) : Ops.Kn W := by
  rw [MakeChecks.laidMetH_plain _ _ _ (by kernel_rfl)] at h
  refine ⟨?_⟩
  obtain ⟨ps, ⟨g', t', cs, fuel, p, q, hg', ht', hvar, hd, _, _⟩, _⟩ := h
  obtain rfl := Option.some.inj (g_resps.symm.trans hg')
  obtain rfl := Option.some.inj ((show (Tryd.prog.globals[0]?).map (·.type) = some 118 by kernel_rfl).symm.trans ht')
  rw [resps_form] at hd
  exact Ops.cells_of_var g_resps hvar (Ops.tab_cells Tryd.underlying118 (by kernel_rfl) rfl Tryd.underlying117 ⟨rfl, rfl⟩ ⟨rfl, rfl⟩ Tryd.underlying9 Tryd.underlying115 Tryd.underlying3 (by kernel_rfl) (by kernel_rfl) (by kernel_rfl) hd)

theorem under_int : Tryd.prog.underlying 3 = some (.int .i64) := by kernel_rfl
def fieldAt (P : Program) (t : TypeId) (i : Nat) : Option (TypeId × Nat) :=
  match P.underlying t with
  | some (.struct fs) => (fs[i]?).map fun f => (f.type, f.offset)
  | _ => none
def isStruct (P : Program) (t : TypeId) : Bool := match P.underlying t with | some (.struct _) => true | _ => false
theorem struct_is {P : Program} {t : TypeId} (h : isStruct P t = true) : ∃ fs, P.underlying t = some (.struct fs) := by
  unfold isStruct at h; split at h
  · rename_i fs hu; exact ⟨fs, hu⟩
  · cases h
theorem field_is {P : Program} {t : TypeId} {fs : Array Field} (hu : P.underlying t = some (.struct fs)) {i ty off : Nat} (h : fieldAt P t i = some (ty, off)) : ∃ f, fs[i]? = some f ∧ f.type = ty ∧ f.offset = off := by
  unfold fieldAt at h
  rw [hu] at h
  simp only [Option.map_eq_some_iff, Prod.mk.injEq] at h
  obtain ⟨f, hf, h1, h2⟩ := h
  exact ⟨f, hf, h1, h2⟩
section
variable {H : Type} {enc : TypeId × Value → H} {w : World} {base : Nat} {sp : Nat → Bool} {held : Bool}
theorem int_field {t : TypeId} {fs : Array Field} {fuel : Nat} {cs : List Value} {x : DataW H × List MemPlace} (hu : Tryd.prog.underlying t = some (.struct fs)) (h : DataW.trod enc Tryd.prog w base sp held fuel t cs = some x)
    {i ty off : Nat} {q : IntKind} (hf : fieldAt Tryd.prog t i = some (ty, off)) (hq : Tryd.prog.underlying ty = some (.int q)) (hc : Tryd.prog.cellsOf ty = 1) :
    ∃ z : Int, cs[off]? = some (.int q z) ∧ (Lit.int q z).wf = true := by
  obtain ⟨xs, n, _, _, hlen, hxl, hfs⟩ := DataW.trod_struct hu h
  obtain ⟨f, hfi, e1, e2⟩ := field_is hu hf
  have h1 := hfs i f hfi
  rw [e1, e2, hc] at h1
  have hi : i < fs.size := (Array.getElem?_eq_some_iff.1 hfi).1
  obtain ⟨y, hy⟩ : ∃ y, xs[i]? = some y := ⟨_, List.getElem?_eq_getElem (by omega)⟩
  rw [hy] at h1
  obtain ⟨z, hz, _, hw⟩ := DataW.trod_int hq h1
  refine ⟨z, ?_, hw⟩
  have : ((cs.drop off).take 1)[0]? = some (.int q z) := by rw [hz]; rfl
  simpa using this
theorem part_field {t : TypeId} {fs : Array Field} {fuel : Nat} {cs : List Value} {x : DataW H × List MemPlace} (hu : Tryd.prog.underlying t = some (.struct fs)) (h : DataW.trod enc Tryd.prog w base sp held fuel t cs = some x)
    {i ty off : Nat} (hf : fieldAt Tryd.prog t i = some (ty, off)) : ∃ n y, DataW.trod enc Tryd.prog w base sp held n ty ((cs.drop off).take (Tryd.prog.cellsOf ty)) = some y := by
  obtain ⟨xs, n, _, _, hlen, hxl, hfs⟩ := DataW.trod_struct hu h
  obtain ⟨f, hfi, e1, e2⟩ := field_is hu hf
  have h1 := hfs i f hfi
  have hi : i < fs.size := (Array.getElem?_eq_some_iff.1 hfi).1
  rw [e1, e2, List.getElem?_eq_getElem (by omega)] at h1
  exact ⟨n, _, h1⟩
theorem cells_ver : Tryd.prog.cellsOf 24 = 7 := by kernel_rfl
theorem cells_ent : Tryd.prog.cellsOf 26 = 3 := by kernel_rfl
set_option maxRecDepth 100000 in
theorem open_ver {H : Type} {enc : TypeId × Value → H} {W : World} {base base' : Nat} {sp : Nat → Bool} {held : Bool} {v : Value} {d : DataW H} {p : List MemPlace}
    (hv : Value.okWide Tryd.prog W .any base' 24 v) (h : DataW.Trod enc Tryd.prog W base sp held 24 v d p) :
    ∃ m ml q fr ql s sl : Int, v = .agg #[.int .u64 m, .int .i64 ml, .int .u64 q, .int .i64 fr, .int .i64 ql, .int .u64 s, .int .i64 sl] ∧ W64 m ∧ W64 q ∧ W64 s := by
  obtain ⟨cs, rfl, hsz⟩ := okWide_struct Tryd.underlying24 hv
  rw [cells_ver] at hsz
  obtain ⟨l⟩ := cs
  obtain ⟨fuel, hf⟩ := h
  have hf' : DataW.trod enc Tryd.prog W base sp held fuel 24 l = some (d, p) := hf
  obtain ⟨x0, h0, w0⟩ := int_field Tryd.underlying24 hf' (i := 0) (ty := 22) (off := 0) (q := .u64) (by kernel_rfl) under_u64 (by kernel_rfl)
  obtain ⟨x1, h1, w1⟩ := int_field Tryd.underlying24 hf' (i := 1) (ty := 3) (off := 1) (q := .i64) (by kernel_rfl) under_int (by kernel_rfl)
  obtain ⟨x2, h2, w2⟩ := int_field Tryd.underlying24 hf' (i := 2) (ty := 22) (off := 2) (q := .u64) (by kernel_rfl) under_u64 (by kernel_rfl)
  obtain ⟨x3, h3, w3⟩ := int_field Tryd.underlying24 hf' (i := 3) (ty := 3) (off := 3) (q := .i64) (by kernel_rfl) under_int (by kernel_rfl)
  obtain ⟨x4, h4, w4⟩ := int_field Tryd.underlying24 hf' (i := 4) (ty := 3) (off := 4) (q := .i64) (by kernel_rfl) under_int (by kernel_rfl)
  obtain ⟨x5, h5, w5⟩ := int_field Tryd.underlying24 hf' (i := 5) (ty := 22) (off := 5) (q := .u64) (by kernel_rfl) under_u64 (by kernel_rfl)
  obtain ⟨x6, h6, w6⟩ := int_field Tryd.underlying24 hf' (i := 6) (ty := 3) (off := 6) (q := .i64) (by kernel_rfl) under_int (by kernel_rfl)
  clear hf' hf hv
  match l, hsz with
  | [c0, c1, c2, c3, c4, c5, c6], _ =>
    simp at h0 h1 h2 h3 h4 h5 h6
    subst h0 h1 h2 h3 h4 h5 h6
    exact ⟨x0, x1, x2, x3, x4, x5, x6, rfl, of_wf_u64 w0, of_wf_u64 w2, of_wf_u64 w5⟩
set_option maxRecDepth 100000 in
theorem open_ent {H : Type} {enc : TypeId × Value → H} {W : World} {base base' : Nat} {sp : Nat → Bool} {held : Bool} {v : Value} {d : DataW H} {p : List MemPlace}
    (hv : Value.okWide Tryd.prog W .any base' 26 v) (h : DataW.Trod enc Tryd.prog W base sp held 26 v d p) :
    ∃ s n x : Int, v = .agg #[.int .i64 s, .int .u64 n, .int .u64 x] ∧ W64 n ∧ W64 x := by
  obtain ⟨cs, rfl, hsz⟩ := okWide_struct Tryd.underlying26 hv
  rw [cells_ent] at hsz
  obtain ⟨l⟩ := cs
  obtain ⟨fuel, hf⟩ := h
  have hf' : DataW.trod enc Tryd.prog W base sp held fuel 26 l = some (d, p) := hf
  obtain ⟨x0, h0, w0⟩ := int_field Tryd.underlying26 hf' (i := 0) (ty := 3) (off := 0) (q := .i64) (by kernel_rfl) under_int (by kernel_rfl)
  obtain ⟨x1, h1, w1⟩ := int_field Tryd.underlying26 hf' (i := 1) (ty := 22) (off := 1) (q := .u64) (by kernel_rfl) under_u64 (by kernel_rfl)
  obtain ⟨x2, h2, w2⟩ := int_field Tryd.underlying26 hf' (i := 2) (ty := 22) (off := 2) (q := .u64) (by kernel_rfl) under_u64 (by kernel_rfl)
  clear hf' hf hv
  match l, hsz with
  | [c0, c1, c2], _ =>
    simp at h0 h1 h2
    subst h0 h1 h2
    exact ⟨x0, x1, x2, rfl, of_wf_u64 w1, of_wf_u64 w2⟩
set_option maxRecDepth 100000 in
theorem open_u64 {H : Type} {enc : TypeId × Value → H} {W : World} {base base' : Nat} {sp : Nat → Bool} {held : Bool} {v : Value} {d : DataW H} {p : List MemPlace}
    (hv : Value.okWide Tryd.prog W .any base' 22 v) (h : DataW.Trod enc Tryd.prog W base sp held 22 v d p) : ∃ a : Int, v = .int .u64 a ∧ W64 a := by
  have hx := open_int Tryd.underlying22 hv h
  clear hv h
  obtain ⟨a, h1, _, _, hw⟩ := hx
  exact ⟨a, h1, of_wf_u64 hw⟩
end
end Hed
end Go.Proofs.YtmjdcpcndggflaaDoor
