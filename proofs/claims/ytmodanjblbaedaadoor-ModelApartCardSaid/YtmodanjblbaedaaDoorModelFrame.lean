/- From what the rows of layer 6 list to what the walks know; steps, operations as arguments. -/
import Derived.Test.YtmodanjblbaedaaDoorModelGreat
import Derived.Test.YtmodanjblbaedaaDoorCards
import Derived.Test.YtmodanjblbaedaaDoorTie
import Derived.ProofKit
import Derived.LaidMore
import Derived.OpenShut
import Derived.Stop.Joined
import Derived.Stop.LaidErr
import Derived.Deep.DeepHandedRow
import Derived.Deep.DeepWitnessRowRef
import Derived.Deep.Slices
import Derived.Deep.Fields
import Derived.ChangeSame
import Derived.Lib.LaidTab
import Derived.Lib.SmallJoins
import Derived.SevenTiedAt
set_option linter.unusedVariables false
set_option linter.unusedSimpArgs false
namespace Go.Proofs.YtmodanjblbaedaaDoor
namespace Mdl
open Go.ChangeShapes Go.WideShapes Go.ChangeAt Go.RowKit Go.Joins Go.Lib Go.Deep Ops

theorem laidOut : laidOutB Tryd.prog = true := by kernel_rfl
theorem own : ownKnob Tryd.prog.godebug = none := by kernel_rfl
theorem g_ops : Tryd.prog.globalNamed "roundelay/ops.operations" = some 0 := by kernel_rfl
/-- The list of the rows. -/
def laidL : List (String × DataW Unit) := [("roundelay/ops.operations", Rows.laid_roundelay_ops_operations)]
theorem ops_form : (Rows.laid_roundelay_ops_operations : DataW Unit) = tabForm opT := by kernel_rfl
theorem of_laid {W : World} (h : laidMetH Tryd.prog laidL W) : Kn W := by
  rw [MakeChecks.laidMetH_plain _ _ _ (by kernel_rfl)] at h
  refine ⟨?_⟩
  obtain ⟨ps, ⟨g', t', cs, fuel, p, q, hg', ht', hvar, hd, _, _⟩, _⟩ := h
  obtain rfl := Option.some.inj (g_ops.symm.trans hg')
  obtain rfl := Option.some.inj ((show (Tryd.prog.globals[0]?).map (·.type) = some 77 by kernel_rfl).symm.trans ht')
  rw [ops_form] at hd
  exact cells_of_var g_ops hvar (tab_cells Tryd.underlying77 (by kernel_rfl) rfl Tryd.underlying76 ⟨rfl, rfl⟩ ⟨rfl, rfl⟩ Tryd.underlying9 Tryd.underlying74 Tryd.underlying3 (by kernel_rfl) (by kernel_rfl) (by kernel_rfl) hd)

/-! ### steps, opened -/
theorem under_steps : Tryd.prog.underlying 22 = some (.slice 37) := by kernel_rfl
theorem under_u16 : Tryd.prog.underlying 33 = some (.int .u16) := by kernel_rfl
def fieldAt (P : Program) (t : TypeId) (i : Nat) : Option (TypeId × Nat) :=
  match P.underlying t with
  | some (.struct fs) => (fs[i]?).map fun f => (f.type, f.offset)
  | _ => none
def isStruct (P : Program) (t : TypeId) : Bool := match P.underlying t with | some (.struct _) => true | _ => false
theorem struct_is {P : Program} {t : TypeId} (h : isStruct P t = true) : ∃ fs, P.underlying t = some (.struct fs) := by
  unfold isStruct at h; split at h
  · rename_i fs hu; exact ⟨fs, hu⟩
  · cases h
theorem field_is {P : Program} {t : TypeId} {fs : Array Field} (hu : P.underlying t = some (.struct fs)) {i ty off : Nat} (h : fieldAt P t i = some (ty, off)) : ∃ f, fs[i]? = some f ∧ f.type = ty ∧ f.offset = off := by
  unfold fieldAt at h
  rw [hu] at h
  simp only [Option.map_eq_some_iff, Prod.mk.injEq] at h
  obtain ⟨f, hf, h1, h2⟩ := h
  exact ⟨f, hf, h1, h2⟩
section
variable {H : Type} {enc : TypeId × Value → H} {w : World} {base : Nat} {sp : Nat → Bool} {held : Bool}
theorem int_field {t : TypeId} {fs : Array Field} {fuel : Nat} {cs : List Value} {x : DataW H × List MemPlace} (hu : Tryd.prog.underlying t = some (.struct fs)) (h : DataW.trod enc Tryd.prog w base sp held fuel t cs = some x)
    {i ty off : Nat} {q : IntKind} (hf : fieldAt Tryd.prog t i = some (ty, off)) (hq : Tryd.prog.underlying ty = some (.int q)) (hc : Tryd.prog.cellsOf ty = 1) :
    ∃ z : Int, cs[off]? = some (.int q z) ∧ (Lit.int q z).wf = true := by
  obtain ⟨xs, n, _, _, hlen, hxl, hfs⟩ := DataW.trod_struct hu h
  obtain ⟨f, hfi, e1, e2⟩ := field_is hu hf
  have h1 := hfs i f hfi
  rw [e1, e2, hc] at h1
  have hi : i < fs.size := (Array.getElem?_eq_some_iff.1 hfi).1
  obtain ⟨y, hy⟩ : ∃ y, xs[i]? = some y := ⟨_, List.getElem?_eq_getElem (by omega)⟩
  rw [hy] at h1
  obtain ⟨z, hz, _, hw⟩ := DataW.trod_int hq h1
  refine ⟨z, ?_, hw⟩
  have : ((cs.drop off).take 1)[0]? = some (.int q z) := by rw [hz]; rfl
  simpa using this
theorem part_field {t : TypeId} {fs : Array Field} {fuel : Nat} {cs : List Value} {x : DataW H × List MemPlace} (hu : Tryd.prog.underlying t = some (.struct fs)) (h : DataW.trod enc Tryd.prog w base sp held fuel t cs = some x)
    {i ty off : Nat} (hf : fieldAt Tryd.prog t i = some (ty, off)) : ∃ n y, DataW.trod enc Tryd.prog w base sp held n ty ((cs.drop off).take (Tryd.prog.cellsOf ty)) = some y := by
  obtain ⟨xs, n, _, _, hlen, hxl, hfs⟩ := DataW.trod_struct hu h
  obtain ⟨f, hfi, e1, e2⟩ := field_is hu hf
  have h1 := hfs i f hfi
  have hi : i < fs.size := (Array.getElem?_eq_some_iff.1 hfi).1
  rw [e1, e2, List.getElem?_eq_getElem (by omega)] at h1
  exact ⟨n, _, h1⟩
theorem of_wf_i64 {z : Int} (h : (Lit.int .i64 z).wf = true) : Mdl.I64 z := by
  simp [Lit.wf, IntKind.min, IntKind.max, IntKind.bits, IntKind.signed] at h
  omega
theorem of_wf_u16 {z : Int} (h : (Lit.int .u16 z).wf = true) : 0 ≤ z ∧ z ≤ 65535 := by
  simp [Lit.wf, IntKind.min, IntKind.max, IntKind.bits, IntKind.signed] at h
  omega
theorem step_is : isStruct Tryd.prog 37 = true := by kernel_rfl
theorem opS_is : isStruct Tryd.prog 35 = true := by kernel_rfl
theorem step_open {fuel : Nat} {cs : List Value} {x : DataW H × List MemPlace} (h : DataW.trod enc Tryd.prog w base sp held fuel 37 cs = some x) : ∃ y : Stp, cs = y.cells ∧ y.Ok := by
  obtain ⟨fs, hu⟩ := struct_is step_is
  have hl : cs.length = 7 := by
    obtain ⟨_, _, _, _, hlen, _⟩ := DataW.trod_struct hu h
    rw [hlen]; kernel_rfl
  obtain ⟨z0, c0, w0⟩ := int_field hu h (i := 0) (ty := 3) (off := 0) (q := .i64) (by kernel_rfl) under_int (by kernel_rfl)
  obtain ⟨z1, c1, w1⟩ := int_field hu h (i := 1) (ty := 3) (off := 1) (q := .i64) (by kernel_rfl) under_int (by kernel_rfl)
  obtain ⟨z2, c2, w2⟩ := int_field hu h (i := 2) (ty := 33) (off := 2) (q := .u16) (by kernel_rfl) under_u16 (by kernel_rfl)
  obtain ⟨n3, y3, h3⟩ := part_field hu h (i := 3) (ty := 35) (off := 3) (by kernel_rfl)
  obtain ⟨fs3, hu3⟩ := struct_is opS_is
  obtain ⟨z3, c3, w3⟩ := int_field hu3 h3 (i := 0) (ty := 3) (off := 0) (q := .i64) (by kernel_rfl) under_int (by kernel_rfl)
  obtain ⟨z4, c4, w4⟩ := int_field hu3 h3 (i := 1) (ty := 3) (off := 1) (q := .i64) (by kernel_rfl) under_int (by kernel_rfl)
  obtain ⟨z5, c5, w5⟩ := int_field hu3 h3 (i := 2) (ty := 3) (off := 2) (q := .i64) (by kernel_rfl) under_int (by kernel_rfl)
  obtain ⟨z6, c6, w6⟩ := int_field hu3 h3 (i := 3) (ty := 3) (off := 3) (q := .i64) (by kernel_rfl) under_int (by kernel_rfl)
  have hc2 : Tryd.prog.cellsOf 35 = 4 := by kernel_rfl
  rw [hc2] at c3 c4 c5 c6
  clear h h3 hu hu3
  match cs, hl with
  | [v0, v1, v2, v3, v4, v5, v6], _ =>
    simp at c0 c1 c2 c3 c4 c5 c6
    subst c0; subst c1; subst c2; subst c3; subst c4; subst c5; subst c6
    exact ⟨⟨z0, z1, z2, ⟨z3, z4, z5, z6⟩⟩, rfl, ⟨of_wf_i64 w0, of_wf_i64 w1, of_wf_u16 w2, of_wf_i64 w3, of_wf_i64 w4, of_wf_i64 w5, of_wf_i64 w6⟩⟩
theorem steps_open {W : World} {a0 : Option Addr} {len cap : Nat} {d : DataW H} {p : List MemPlace} (h : DataW.Trod enc Tryd.prog W base sp held 22 (.slice a0 len cap) d p) :
    Steps W a0 len ∧ len ≤ maxLen := by
  obtain ⟨fuel, hf⟩ := h
  rcases open_slice under_steps hf with ⟨h0, _⟩ | ⟨a, len', cap', m, n, D, Pl, hcs, _, hl, hcm, hm, _, hi⟩
  · simp [Value.cells] at h0
    obtain ⟨_, rfl, _⟩ := h0
    exact ⟨fun h => by omega, by omega⟩
  · simp [Value.cells] at hcs
    obtain ⟨rfl, rfl, rfl⟩ := hcs
    refine ⟨fun hpos => ?_, by omega⟩
    have hlm : len ≤ m := by rw [hm]; split <;> omega
    have hcell : Tryd.prog.cellsOf 37 = 7 := by kernel_rfl
    rw [hcell] at hi
    have key : ∀ i, i < len → ∃ y : Stp, (∀ j u, y.cells[j]? = some u → W.cell? ((a.add (i * 7)).add j) = some u) ∧ y.Ok := fun i hil => by
      obtain ⟨cs', hc, ht⟩ := hi i (by omega)
      obtain ⟨y, rfl, h1⟩ := step_open ht
      obtain ⟨_, hlen, hat⟩ := World.cells?_some hc
      exact ⟨y, fun j u hu => by rw [hat j (by have := (List.getElem?_eq_some_iff.1 hu).1; omega), hu], h1⟩
    obtain ⟨y0, hy0, _⟩ := key 0 hpos
    have hs := World.cell?_spot (hy0 0 _ rfl)
    obtain ⟨bl, off, spot⟩ := a
    have hsp : spot = none := by simpa [Addr.add] using hs
    subst hsp
    have hadd2 : ∀ o k, (⟨bl, o, none⟩ : Addr).add k = ⟨bl, o + k, none⟩ := fun o k => by
      unfold Addr.add; split
      · rename_i e; simp [e]
      · rfl
    refine ⟨bl, off, rfl, fun i hil => ?_⟩
    obtain ⟨y, hy, hok⟩ := key i hil
    rw [hadd2] at hy
    exact ⟨y, hok, fun j u hu => by
      have := hy j u hu
      rwa [hadd2] at this⟩
end
end Mdl
end Go.Proofs.YtmodanjblbaedaaDoor
