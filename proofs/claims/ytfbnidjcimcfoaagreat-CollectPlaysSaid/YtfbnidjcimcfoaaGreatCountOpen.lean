/- Lists of bytes as arguments. -/
import Derived.Test.YtfbnidjcimcfoaaGreatCountTopsWalk2
import Derived.Deep.Slices
import Derived.WalkKit
import Derived.ProofKit
import Derived.OpenShut
set_option linter.unusedVariables false
set_option linter.unusedSimpArgs false
namespace Go.Proofs.YtfbnidjcimcfoaaGreat
namespace Cnt
open Go.ChangeShapes Go.WideShapes Go.Deep Go.ChangeAt Go.RowKit Arn
section
variable {H : Type} {enc : TypeId × Value → H} {w : World} {base : Nat} {sp : Nat → Bool} {held : Bool}
theorem under_u8s : Tryz.prog.underlying 24 = some (.slice 5) := by kernel_rfl
theorem under_u8 : Tryz.prog.underlying 5 = some (.int .u8) := by kernel_rfl
theorem of_wf_u8 {k : Int} (h : (Lit.int .u8 k).wf = true) : 0 ≤ k ∧ k < 256 := by
  simp [Lit.wf, IntKind.min, IntKind.max, IntKind.bits, IntKind.signed] at h
  exact ⟨h.1, by omega⟩
theorem choose_lt {P : Nat → Int → Prop} {n : Nat} (h : ∀ i, i < n → ∃ z, P i z) : ∃ f : Nat → Int, ∀ i, i < n → P i (f i) :=
  ⟨fun i => if hi : i < n then (h i hi).choose else 0, fun i hi => by simp only [hi, dif_pos]; exact (h i hi).choose_spec⟩
theorem bytes_open {ao : Option Addr} {n c : Nat} {d : DataW H} {p : List MemPlace} (h : DataW.Trod enc Tryz.prog w base sp held 24 (.slice ao n c) d p) :
    ∃ z, BytesC w (.slice ao n c) z n ∧ (∀ i, i < n → 0 ≤ z i ∧ z i < 256) ∧ n ≤ maxLen := by
  obtain ⟨fuel, hf⟩ := h
  rcases open_slice1 under_u8s (by kernel_rfl) hf with ⟨e, _⟩ | ⟨a, len, cap, m, n', V, D, Pl, e, _, hl, _, hm, _, hi⟩
  · simp [Value.cells] at e
    obtain ⟨rfl, rfl, rfl⟩ := e
    exact ⟨fun _ => 0, ⟨⟨_, _, rfl⟩, .inl rfl⟩, fun i hi => by omega, by simp⟩
  · simp [Value.cells] at e
    obtain ⟨rfl, rfl, rfl⟩ := e
    have hlm : n ≤ m := by rw [hm]; split <;> omega
    have hz : ∀ i, i < n → ∃ z : Int, w.cell? (a.add i) = some (.int .u8 z) ∧ (0 ≤ z ∧ z < 256) := fun i hil => by
      obtain ⟨h1, h2⟩ := hi i (by omega)
      obtain ⟨z, hz, _, hw⟩ := DataW.trod_int under_u8 h2
      simp at hz
      exact ⟨z, by rw [h1, hz], of_wf_u8 hw⟩
    obtain ⟨f, hf⟩ := choose_lt hz
    exact ⟨f, ⟨⟨_, _, rfl⟩, .inr ⟨a, c, rfl, fun i hi => (hf i hi).1⟩⟩, fun i hi => (hf i hi).2, by omega⟩
end
end Cnt
end Go.Proofs.YtfbnidjcimcfoaaGreat
