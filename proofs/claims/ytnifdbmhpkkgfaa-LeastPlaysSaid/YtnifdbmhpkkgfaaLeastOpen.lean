/- A slice of structs of integers, opened: what its reading says of the cells; a list of operations; a law over a number and such a list, closed. -/
import Derived.Test.YtnifdbmhpkkgfaaLeastHoldsWalk
import Derived.Deep.Slices
import Derived.Deep.Fields
import Derived.ChangeSame
import Derived.ProofKit
import Derived.OpenShut
set_option linter.unusedVariables false
set_option linter.unusedSimpArgs false
namespace Go.Proofs.Ytnifdbmhpkkgfaa
namespace Opn
open Go.ChangeShapes Go.WideShapes Go.Deep Go.ChangeAt Go.RowKit
section
variable {H : Type} {enc : TypeId × Value → H} {P : Program} {w : World} {base : Nat} {spare : Nat → Bool} {held : Bool}

/-- Of a slice of structs, each of whose fields is an integer of one kind: every cell up to the length. -/
theorem ints_of_structs {t e : TypeId} {fs : Array Field} {q : IntKind} {fuel : Nat} {cs : List Value} {x : DataW H × List MemPlace} (ht : P.underlying t = some (.slice e)) (he : P.underlying e = some (.struct fs))
    (hone : oneCellFields P fs = true) (hC : P.cellsOf e = fs.size) (hq : ∀ (j : Nat) (f : Field), fs[j]? = some f → P.underlying f.type = some (.int q))
    (h : DataW.trod enc P w base spare held fuel t cs = some x) :
    cs = [.slice none 0 0] ∨ ∃ (a : Addr) (len cap : Nat), cs = [.slice (some a) len cap] ∧
      ∀ i, i < len → ∀ j, j < fs.size → ∃ z : Int, w.cell? (a.add (i * fs.size + j)) = some (.int q z) ∧ (Lit.int q z).wf = true := by
  rcases open_slice ht h with ⟨h0, _⟩ | ⟨a, len, cap, m, n, D, Pl, rfl, _, hl, _, hm, _, hi⟩
  · exact .inl h0
  · refine .inr ⟨a, len, cap, rfl, fun i hil j hj => ?_⟩
    obtain ⟨cs', hc, ht'⟩ := hi i (by rw [hm]; split <;> omega)
    rw [hC] at hc
    obtain ⟨xs, n', _, _, hlen, hxl, hf⟩ := DataW.trod_struct he ht'
    obtain ⟨_, hcl, hat⟩ := World.cells?_some hc
    obtain ⟨f, hfj⟩ : ∃ f, fs[j]? = some f := ⟨fs[j], by simp [hj]⟩
    obtain ⟨ho, hk⟩ := hone_of hone j f hfj
    have h1 := hf j f hfj
    rw [ho, hk] at h1
    obtain ⟨v, hv⟩ : ∃ v, cs'[j]? = some v := ⟨cs'[j]'(by omega), List.getElem?_eq_getElem (by omega)⟩
    obtain ⟨y, hy⟩ : ∃ y, xs[j]? = some y := ⟨xs[j]'(by omega), List.getElem?_eq_getElem (by omega)⟩
    have h2 : (cs'.drop j).take 1 = [v] := by
      obtain ⟨hlt, e⟩ := List.getElem?_eq_some_iff.1 hv
      rw [List.drop_eq_getElem_cons hlt, e]; rfl
    rw [h2, hy] at h1
    obtain ⟨z, hz, _, hw⟩ := DataW.trod_int (hq j f hfj) h1
    have hz' : v = .int q z := by simpa using hz
    refine ⟨z, ?_, hw⟩
    rw [← add_add, hat j hj, hv, hz']
end

def threeInts (P : Program) (t : TypeId) : Bool :=
  match P.underlying t with
  | some (.struct fs) => fs.size == 3 && oneCellFields P fs && (P.cellsOf t == 3) && (List.range 3).all fun j => match fs[j]? with | some f => (match P.underlying f.type with | some (.int .i64) => true | _ => false) | none => false
  | _ => false
theorem three_of {P : Program} {t : TypeId} (h : threeInts P t = true) : ∃ fs : Array Field, P.underlying t = some (.struct fs) ∧ fs.size = 3 ∧ oneCellFields P fs = true ∧ P.cellsOf t = 3 ∧ ∀ (j : Nat) (f : Field), fs[j]? = some f → P.underlying f.type = some (.int .i64) := by
  unfold threeInts at h
  split at h
  · rename_i fs hu
    simp only [Bool.and_eq_true, beq_iff_eq, List.all_eq_true, List.mem_range] at h
    obtain ⟨⟨⟨h1, h2⟩, h3⟩, h4⟩ := h
    refine ⟨fs, hu, h1, h2, h3, fun j f hj => ?_⟩
    have hlt : j < fs.size := (Array.getElem?_eq_some_iff.1 hj).1
    have := h4 j (by omega)
    rw [hj] at this
    simp only at this
    split at this
    · assumption
    · cases this
  · cases h
theorem op_three : threeInts Try.prog 40 = true := by kernel_rfl
theorem under_ops : Try.prog.underlying 22 = some (.slice 40) := by kernel_rfl
theorem laidOut : laidOutB Try.prog = true := by kernel_rfl
theorem addr_of {a : Addr} {w : World} {v : Value} (h : w.cell? a = some v) : ∃ b o, a = ⟨b, o, none⟩ := by
  have hs := World.cell?_spot h
  obtain ⟨b, o, s⟩ := a
  exact ⟨b, o, by simpa using hs⟩
theorem ops_open {H : Type} {enc : TypeId × Value → H} {W : World} {base : Nat} {sp : Nat → Bool} {held : Bool} {a0 : Option Addr} {len cap : Nat} {d : DataW H} {p : List MemPlace}
    (h : DataW.Trod enc Try.prog W base sp held 22 (.slice a0 len cap) d p) : 0 < len → ∃ bl off, a0 = some ⟨bl, off, none⟩ ∧ Lst.OpsAt W bl off len := by
  obtain ⟨fuel, hf⟩ := h
  obtain ⟨fs, h1, h2, h3, h4, h5⟩ := three_of op_three
  intro hpos
  rcases ints_of_structs under_ops h1 h3 (by rw [h2]; exact h4) h5 hf with h0 | ⟨a, len', cap', hcs, hi⟩
  · simp [Value.cells] at h0; omega
  · simp [Value.cells] at hcs
    obtain ⟨rfl, rfl, rfl⟩ := hcs
    rw [h2] at hi
    obtain ⟨z, hz, _⟩ := hi 0 hpos 0 (by omega)
    obtain ⟨bl, off, rfl⟩ := addr_of (a := a) (by simpa [Addr.add] using hz)
    refine ⟨bl, off, rfl, fun i hil => ?_⟩
    obtain ⟨x, hx, wx⟩ := hi i hil 0 (by omega)
    obtain ⟨y, hy, wy⟩ := hi i hil 1 (by omega)
    obtain ⟨z, hz, wz⟩ := hi i hil 2 (by omega)
    have hadd : ∀ k, (⟨bl, off, none⟩ : Addr).add k = ⟨bl, off + k, none⟩ := fun k => by
      unfold Addr.add; split
      · rename_i e; simp [e]
      · rfl
    rw [hadd] at hx hy hz
    exact ⟨x, y, z, ⟨by simpa using hx, by simpa [Nat.add_assoc] using hy, by simpa [Nat.add_assoc] using hz, wx, wy, wz⟩⟩
theorem below_of {w w' : World} (h : Frm.Turn [] w w') : Below w.heap.size w w' := h.below (Nat.le_refl _) (by simp)
end Opn
end Go.Proofs.Ytnifdbmhpkkgfaa
