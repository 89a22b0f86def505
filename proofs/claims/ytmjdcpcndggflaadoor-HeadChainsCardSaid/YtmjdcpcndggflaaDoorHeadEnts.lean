/- Lists of entries as arguments, opened. -/
import Derived.Test.YtmjdcpcndggflaaDoorHeadFrame
import Derived.Test.YtmjdcpcndggflaaDoorHeadChains
set_option linter.unusedVariables false
set_option linter.unusedSimpArgs false
namespace Go.Proofs.YtmjdcpcndggflaaDoor
namespace Hed
open Go.ChangeShapes Go.WideShapes Go.Deep Go.ChangeAt Go.RowKit Arn
theorem under_entl : Tryd.prog.underlying 50 = some (.slice 26) := by kernel_rfl
theorem ent_is : isStruct Tryd.prog 26 = true := by kernel_rfl
section
variable {H : Type} {enc : TypeId × Value → H} {w : World} {base : Nat} {sp : Nat → Bool} {held : Bool}
theorem ent_open {fuel : Nat} {cs : List Value} {x : DataW H × List MemPlace} (hl : cs.length = 3) (h : DataW.trod enc Tryd.prog w base sp held fuel 26 cs = some x) :
    ∃ e : Ent, cs = [.int .i64 e.1, .int .u64 e.2.1, .int .u64 e.2.2] ∧ W64 e.2.1 ∧ W64 e.2.2 := by
  obtain ⟨fs, hu⟩ := struct_is ent_is
  obtain ⟨x0, h0, w0⟩ := int_field hu h (i := 0) (ty := 3) (off := 0) (q := .i64) (by kernel_rfl) under_int (by kernel_rfl)
  obtain ⟨x1, h1, w1⟩ := int_field hu h (i := 1) (ty := 22) (off := 1) (q := .u64) (by kernel_rfl) under_u64 (by kernel_rfl)
  obtain ⟨x2, h2, w2⟩ := int_field hu h (i := 2) (ty := 22) (off := 2) (q := .u64) (by kernel_rfl) under_u64 (by kernel_rfl)
  clear h hu
  match cs, hl with
  | [c0, c1, c2], _ =>
    simp at h0 h1 h2
    subst h0 h1 h2
    exact ⟨(x0, x1, x2), rfl, of_wf_u64 w1, of_wf_u64 w2⟩
theorem ents_open {W : World} {a0 : Option Addr} {len cap : Nat} {d : DataW H} {p : List MemPlace} (h : DataW.Trod enc Tryd.prog W base sp held 50 (.slice a0 len cap) d p) :
    ∃ E : List Ent, E.length = len ∧ EntsAt W a0 E ∧ (∀ e, e ∈ E → W64 e.2.1) := by
  obtain ⟨fuel, hf⟩ := h
  rcases open_slice under_entl hf with ⟨h0, _⟩ | ⟨a, len', cap', m, n, D, Pl, hcs, _, hl, hcm, hm, _, hi⟩
  · simp [Value.cells] at h0
    obtain ⟨_, rfl, _⟩ := h0
    exact ⟨[], rfl, fun h => by simp at h, by simp⟩
  · simp [Value.cells] at hcs
    obtain ⟨rfl, rfl, rfl⟩ := hcs
    have hlm : len ≤ m := by rw [hm]; split <;> omega
    rw [cells_ent] at hi
    have key : ∀ i, i < len → ∃ y : Ent, (∀ j u, ([.int .i64 y.1, .int .u64 y.2.1, .int .u64 y.2.2] : List Value)[j]? = some u → W.cell? ((a.add (i * 3)).add j) = some u) ∧ W64 y.2.1 := fun i hil => by
      obtain ⟨cs', hc, ht⟩ := hi i (by omega)
      obtain ⟨_, hlen, hat⟩ := World.cells?_some hc
      obtain ⟨y, rfl, h1, h2⟩ := ent_open hlen ht
      exact ⟨y, fun j u hu => by rw [hat j (by have := (List.getElem?_eq_some_iff.1 hu).1; simpa using this), hu], h1⟩
    obtain ⟨f, hf2⟩ := choose_lt key
    refine ⟨(List.range len).map f, by simp, fun hpos => ?_, fun e he => ?_⟩
    · have hpos' : 0 < len := by simpa using hpos
      have hs := World.cell?_spot ((hf2 0 hpos').1 0 _ rfl)
      obtain ⟨bl, off, spot⟩ := a
      have hsp : spot = none := by simpa [Addr.add] using hs
      subst hsp
      have hadd : ∀ o k, (⟨bl, o, none⟩ : Addr).add k = ⟨bl, o + k, none⟩ := fun o k => by
        unfold Addr.add; split
        · rename_i e; simp [e]
        · rfl
      refine ⟨bl, off, rfl, fun j s n x hj => ?_⟩
      rw [List.getElem?_map] at hj
      obtain ⟨i, hi1, hi2⟩ := Option.map_eq_some_iff.1 hj
      obtain ⟨hlt, e⟩ := List.getElem?_eq_some_iff.1 hi1
      rw [List.getElem_range] at e
      subst e
      rw [List.length_range] at hlt
      have hy := (hf2 j hlt).1
      rw [hi2] at hy
      have y0 := hy 0 _ rfl
      have y1 := hy 1 _ rfl
      have y2 := hy 2 _ rfl
      rw [hadd, hadd] at y0 y1 y2
      exact ⟨y0, y1, y2⟩
    · obtain ⟨i, hi1, rfl⟩ := List.mem_map.1 he
      exact (hf2 i (List.mem_range.1 hi1)).2
end
end Hed
end Go.Proofs.YtmjdcpcndggflaaDoor
