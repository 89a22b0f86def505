/- The arguments of the laws, opened: a node, and a case. -/
import Derived.Test.YtennngngdmdpnaaQuadFirst
import Derived.Test.YtennngngdmdpnaaRows
import Derived.Deep.Slices
import Derived.Deep.Fields
import Derived.ChangeSame
import Derived.ProofKit
import Derived.OpenShut
set_option linter.unusedVariables false
set_option linter.unusedSimpArgs false
namespace Go.Proofs.Ytennngngdmdpnaa
namespace Qud
open Go.ChangeShapes Go.WideShapes Go.Deep Go.ChangeAt Go.RowKit Arn

def fieldAt (P : Program) (t : TypeId) (i : Nat) : Option (TypeId × Nat) :=
  match P.underlying t with
  | some (.struct fs) => (fs[i]?).map fun f => (f.type, f.offset)
  | _ => none
theorem field_is {P : Program} {t : TypeId} {fs : Array Field} (hu : P.underlying t = some (.struct fs)) {i ty off : Nat} (h : fieldAt P t i = some (ty, off)) : ∃ f, fs[i]? = some f ∧ f.type = ty ∧ f.offset = off := by
  unfold fieldAt at h
  rw [hu] at h
  simp only [Option.map_eq_some_iff, Prod.mk.injEq] at h
  obtain ⟨f, hf, h1, h2⟩ := h
  exact ⟨f, hf, h1, h2⟩
theorem under_int : Try.prog.underlying 3 = some (.int .i64) := by kernel_rfl
theorem cells_node : Try.prog.cellsOf 24 = 4 := by kernel_rfl
theorem cells_u64 : Try.prog.cellsOf 22 = 1 := by kernel_rfl
theorem of_wf_i64 {k : Int} (h : (Lit.int .i64 k).wf = true) : I64 k := by
  simp [Lit.wf, IntKind.min, IntKind.max, IntKind.bits, IntKind.signed] at h
  unfold I64
  omega
section
variable {H : Type} {enc : TypeId × Value → H} {w : World} {base : Nat} {sp : Nat → Bool} {held : Bool}
theorem node_open {fuel : Nat} {cs : List Value} {x : DataW H × List MemPlace} (h : DataW.trod enc Try.prog w base sp held fuel 24 cs = some x) :
    ∃ x0 x1 x2 x3 : Int, cs = [.int .u64 x0, .int .u64 x1, .int .u64 x2, .int .u64 x3] ∧ W64 x0 ∧ W64 x1 ∧ W64 x2 ∧ W64 x3 := by
  obtain ⟨xs, m, _, _, hl, hx, hel⟩ := DataW.trod_array Try.underlying24 h
  rw [cells_node] at hl
  rw [cells_u64] at hel
  match cs, hl with
  | [c0, c1, c2, c3], _ =>
    have hg : ∀ i, i < 4 → ∀ c, ([c0, c1, c2, c3].drop (i * 1)).take 1 = [c] → ∃ z : Int, c = .int .u64 z ∧ W64 z := fun i hi c hc => by
      have h1 := hel i hi
      rw [hc, List.getElem?_eq_getElem (by omega)] at h1
      obtain ⟨z, hz, _, hw⟩ := DataW.trod_int under_u64 h1
      simp at hz
      exact ⟨z, hz, of_wf_u64 hw⟩
    obtain ⟨x0, rfl, w0⟩ := hg 0 (by omega) c0 rfl
    obtain ⟨x1, rfl, w1⟩ := hg 1 (by omega) c1 rfl
    obtain ⟨x2, rfl, w2⟩ := hg 2 (by omega) c2 rfl
    obtain ⟨x3, rfl, w3⟩ := hg 3 (by omega) c3 rfl
    exact ⟨x0, x1, x2, x3, rfl, w0, w1, w2, w3⟩
theorem int_field {t : TypeId} {fs : Array Field} {fuel : Nat} {cs : List Value} {x : DataW H × List MemPlace} (hu : Try.prog.underlying t = some (.struct fs)) (h : DataW.trod enc Try.prog w base sp held fuel t cs = some x)
    {i ty off : Nat} {q : IntKind} (hf : fieldAt Try.prog t i = some (ty, off)) (hq : Try.prog.underlying ty = some (.int q)) (hc : Try.prog.cellsOf ty = 1) :
    ∃ z : Int, cs[off]? = some (.int q z) ∧ (Lit.int q z).wf = true := by
  obtain ⟨xs, n, _, _, hlen, hxl, hfs⟩ := DataW.trod_struct hu h
  obtain ⟨f, hfi, e1, e2⟩ := field_is hu hf
  have h1 := hfs i f hfi
  rw [e1, e2, hc] at h1
  have hi : i < fs.size := (Array.getElem?_eq_some_iff.1 hfi).1
  obtain ⟨y, hy⟩ : ∃ y, xs[i]? = some y := ⟨_, List.getElem?_eq_getElem (by omega)⟩
  rw [hy] at h1
  obtain ⟨z, hz, _, hw⟩ := DataW.trod_int hq h1
  refine ⟨z, ?_, hw⟩
  have : ((cs.drop off).take 1)[0]? = some (.int q z) := by rw [hz]; rfl
  simpa using this
theorem part_field {t : TypeId} {fs : Array Field} {fuel : Nat} {cs : List Value} {x : DataW H × List MemPlace} (hu : Try.prog.underlying t = some (.struct fs)) (h : DataW.trod enc Try.prog w base sp held fuel t cs = some x)
    {i ty off : Nat} (hf : fieldAt Try.prog t i = some (ty, off)) : ∃ n y, DataW.trod enc Try.prog w base sp held n ty ((cs.drop off).take (Try.prog.cellsOf ty)) = some y := by
  obtain ⟨xs, n, _, _, hlen, hxl, hfs⟩ := DataW.trod_struct hu h
  obtain ⟨f, hfi, e1, e2⟩ := field_is hu hf
  have h1 := hfs i f hfi
  have hi : i < fs.size := (Array.getElem?_eq_some_iff.1 hfi).1
  rw [e1, e2, List.getElem?_eq_getElem (by omega)] at h1
  exact ⟨n, _, h1⟩
end
end Qud
end Go.Proofs.Ytennngngdmdpnaa
