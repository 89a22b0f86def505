/- An array of two words as an argument: read as data, and put together again. -/
import Derived.Test.YthmcfkgeacjhlaaRows
import Derived.WalkKit
import Derived.ProofKit
import Derived.OpenShut
namespace Go.Proofs.Ythmcfkgeacjhlaa
namespace Fld
open Go.ChangeShapes Go.WideShapes Go.ChangeAt Go.RowKit

theorem cells_arr : Try.prog.cellsOf 31 = 2 := by kernel_rfl
theorem cells_u64 : Try.prog.cellsOf 22 = 1 := by kernel_rfl
theorem list2 {α : Type} (l : List α) (h : (⟨l⟩ : Array α).size = 2) : ∃ a b, l = [a, b] := by
  match l, h with
  | [a, b], _ => exact ⟨a, b, rfl⟩
theorem len2 {α : Type} (l : List α) (h : l.length = 2) : ∃ a b, l = [a, b] := by
  match l, h with
  | [a, b], _ => exact ⟨a, b, rfl⟩

theorem open_arr {H : Type} {enc : TypeId × Value → H} {W : World} {base : Nat} {base' : Nat} {sp : Nat → Bool} {held : Bool} {v : Value} {d : DataW H} {p : List MemPlace}
    (hv : Value.okWide Try.prog W .any base' 31 v) (h : DataW.Trod enc Try.prog W base sp held 31 v d p) :
    ∃ x0 x1 : Int, v = .agg #[.int .u64 x0, .int .u64 x1] ∧ d = .agg [.lit (.int .u64 x0), .lit (.int .u64 x1)] ∧ p = [] ∧
      (Lit.int .u64 x0).wf = true ∧ (Lit.int .u64 x1).wf = true := by
  obtain ⟨cs, rfl, hsz, _⟩ : ∃ cs, v = .agg cs ∧ cs.size = Try.prog.cellsOf 31 ∧ Row.okWide Try.prog W .any base' 31 cs := by
    simpa [Value.okWide, Try.underlying31] using hv
  rw [cells_arr] at hsz
  obtain ⟨l⟩ := cs
  obtain ⟨c0, c1, rfl⟩ := list2 l hsz
  obtain ⟨fuel, hf⟩ := h
  obtain ⟨xs, m, _, hx, _, hl, hel⟩ := DataW.trod_array Try.underlying31 hf
  obtain ⟨y0, y1, rfl⟩ := len2 xs hl
  have h0 := hel 0 (by decide)
  have h1 := hel 1 (by decide)
  rw [cells_u64] at h0 h1
  obtain ⟨x0, e0, rfl, w0⟩ := DataW.trod_int Try.underlying22 (show DataW.trod enc Try.prog W base sp held m 22 [c0] = some y0 from h0)
  obtain ⟨x1, e1, rfl, w1⟩ := DataW.trod_int Try.underlying22 (show DataW.trod enc Try.prog W base sp held m 22 [c1] = some y1 from h1)
  simp at e0 e1
  subst e0 e1
  simp only [Prod.mk.injEq] at hx
  exact ⟨x0, x1, rfl, hx.1, by simpa using hx.2, w0, w1⟩

theorem shut_arr {H : Type} {enc : TypeId × Value → H} {W : World} {base : Nat} {sp : Nat → Bool} {held : Bool} {x0 x1 : Int}
    (w0 : (Lit.int .u64 x0).wf = true) (w1 : (Lit.int .u64 x1).wf = true) :
    DataW.Trod enc Try.prog W base sp held 31 (.agg #[.int .u64 x0, .int .u64 x1]) (.agg [.lit (.int .u64 x0), .lit (.int .u64 x1)]) [] :=
  ⟨2, by simp [DataW.trod, Value.cells, Try.underlying31, Try.underlying22, cells_arr, cells_u64, w0, w1, show List.range 2 = [0, 1] from rfl]⟩
end Fld
end Go.Proofs.Ythmcfkgeacjhlaa
