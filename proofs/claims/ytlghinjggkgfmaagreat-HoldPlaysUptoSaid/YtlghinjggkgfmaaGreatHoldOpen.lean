/- Lists of numbers as arguments. -/
import Derived.Test.YtlghinjggkgfmaaGreatHoldLaw
import Derived.Deep.Slices
import Derived.WalkKit
import Derived.ProofKit
import Derived.OpenShut
set_option linter.unusedVariables false
set_option linter.unusedSimpArgs false
namespace Go.Proofs.YtlghinjggkgfmaaGreat
namespace Hld
open Go.ChangeShapes Go.WideShapes Go.Deep Go.ChangeAt Go.RowKit Arn
section
variable {H : Type} {enc : TypeId × Value → H} {w : World} {base : Nat} {sp : Nat → Bool} {held : Bool}
theorem under_u8s : Tryz.prog.underlying 55 = some (.slice 5) := by kernel_rfl
theorem under_u8 : Tryz.prog.underlying 5 = some (.int .u8) := by kernel_rfl
theorem under_w64s : Tryz.prog.underlying 24 = some (.slice 25) := by kernel_rfl
theorem under_w64 : Tryz.prog.underlying 25 = some (.int .u64) := by kernel_rfl
theorem of_wf_8 {k : Int} (h : (Lit.int .u8 k).wf = true) : 0 ≤ k ∧ k < 256 := by
  simp [Lit.wf, IntKind.min, IntKind.max, IntKind.bits, IntKind.signed] at h
  exact ⟨h.1, by omega⟩
theorem of_wf_64 {k : Int} (h : (Lit.int .u64 k).wf = true) : W64 k := by
  simp [Lit.wf, IntKind.min, IntKind.max, IntKind.bits, IntKind.signed] at h
  exact ⟨h.1, by omega⟩
theorem choose_lt {P : Nat → Int → Prop} {n : Nat} (h : ∀ i, i < n → ∃ z, P i z) : ∃ f : Nat → Int, ∀ i, i < n → P i (f i) :=
  ⟨fun i => if hi : i < n then (h i hi).choose else 0, fun i hi => by simp only [hi, dif_pos]; exact (h i hi).choose_spec⟩
theorem kind_open {K : IntKind} {ts te : TypeId} {Q : Int → Prop} (hs : Tryz.prog.underlying ts = some (.slice te)) (he : Tryz.prog.underlying te = some (.int K)) (hz : Tryz.prog.cellsOf te = 1) (hQ : ∀ k : Int, (Lit.int K k).wf = true → Q k)
    {ao : Option Addr} {n c : Nat} {d : DataW H} {p : List MemPlace} (h : DataW.Trod enc Tryz.prog w base sp held ts (.slice ao n c) d p) :
    ∃ z, KindC K w (.slice ao n c) z n ∧ (∀ i, i < n → Q (z i)) ∧ n ≤ maxLen := by
  obtain ⟨fuel, hf⟩ := h
  rcases open_slice1 hs hz hf with ⟨e, _⟩ | ⟨a, len, cap, m, n', V, D, Pl, e, _, hl, _, hm, _, hi⟩
  · simp [Value.cells] at e
    obtain ⟨rfl, rfl, rfl⟩ := e
    exact ⟨fun _ => 0, ⟨⟨_, _, rfl⟩, .inl rfl⟩, fun i hi => by omega, by simp⟩
  · simp [Value.cells] at e
    obtain ⟨rfl, rfl, rfl⟩ := e
    have hlm : n ≤ m := by rw [hm]; split <;> omega
    have hz : ∀ i, i < n → ∃ z : Int, w.cell? (a.add i) = some (.int K z) ∧ Q z := fun i hil => by
      obtain ⟨h1, h2⟩ := hi i (by omega)
      obtain ⟨z, hz, _, hw⟩ := DataW.trod_int he h2
      simp at hz
      exact ⟨z, by rw [h1, hz], hQ _ hw⟩
    obtain ⟨f, hf⟩ := choose_lt hz
    exact ⟨f, ⟨⟨_, _, rfl⟩, .inr ⟨a, c, rfl, fun i hi => (hf i hi).1⟩⟩, fun i hi => (hf i hi).2, by omega⟩
theorem info_u8' : Tryz.prog.cellsOf 5 = 1 := by kernel_rfl
theorem info_u64' : Tryz.prog.cellsOf 25 = 1 := by kernel_rfl
end
end Hld
end Go.Proofs.YtlghinjggkgfmaaGreat
