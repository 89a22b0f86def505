/- Lists of words, lists of entries as arguments, opened. -/
import Derived.Test.YtmjdcpcndggflaaDoorHeadFrame
set_option linter.unusedVariables false
set_option linter.unusedSimpArgs false
namespace Go.Proofs.YtmjdcpcndggflaaDoor
namespace Hed
open Go.ChangeShapes Go.WideShapes Go.Deep Go.ChangeAt Go.RowKit Arn
theorem under_wordsl : Tryd.prog.underlying 28 = some (.slice 22) := by kernel_rfl
theorem block_lt {w : World} {a : Addr} {v : Value} (h : w.cell? a = some v) : a.block < w.heap.size := World.block_lt_of_cell? w _ h
section
variable {H : Type} {enc : TypeId × Value → H} {w : World} {base : Nat} {sp : Nat → Bool} {held : Bool}
theorem words_open {fuel : Nat} {cs : List Value} {x : DataW H × List MemPlace} (h : DataW.trod enc Tryd.prog w base sp held fuel 28 cs = some x) :
    ∃ ao wn wc ws, cs = [.slice ao wn wc] ∧ WordsAt w (.slice ao wn wc) ws ∧ (∀ u, u ∈ ws → W64 u) ∧ (ws ≠ [] → ∀ k, (Value.slice ao wn wc).ownBlock = some k → k < w.heap.size) := by
  rcases open_slice1 under_wordsl (by kernel_rfl) h with ⟨rfl, _⟩ | ⟨a, len, cap, m, n, V, D, Pl, rfl, _, hl, _, hm, _, hi⟩
  · exact ⟨none, 0, 0, [], rfl, .inl ⟨rfl, rfl⟩, by simp, by simp⟩
  · have hlm : len ≤ m := by rw [hm]; split <;> omega
    have hz : ∀ i, i < len → ∃ z : Int, w.cell? (a.add i) = some (.int .u64 z) ∧ W64 z := fun i hil => by
      obtain ⟨h1, h2⟩ := hi i (by omega)
      obtain ⟨z, hz, _, hw⟩ := DataW.trod_int under_u64 h2
      simp at hz
      exact ⟨z, by rw [h1, hz], of_wf_u64 hw⟩
    obtain ⟨f, hf⟩ := choose_lt hz
    refine ⟨some a, len, cap, (List.range len).map f, rfl, .inr ⟨a, cap, by simp, fun j u hu => ?_⟩, fun u hu => ?_, fun hne k hk => ?_⟩
    · simp only [u64s, List.map_map, List.getElem?_map] at hu
      obtain ⟨i, hi1, hi2⟩ := Option.map_eq_some_iff.1 hu
      obtain ⟨hlt, e⟩ := List.getElem?_eq_some_iff.1 hi1
      rw [List.getElem_range] at e
      subst e
      rw [List.length_range] at hlt
      rw [(hf j hlt).1, ← hi2]; rfl
    · obtain ⟨i, hi1, rfl⟩ := List.mem_map.1 hu
      exact (hf i (List.mem_range.1 hi1)).2
    · have hlen : 0 < len := by
        cases len with
        | zero => simp at hne
        | succ n => omega
      simp [Value.ownBlock] at hk
      subst hk
      have h0 := (hf 0 hlen).1
      have hb : (a.add 0).block = a.block := by unfold Addr.add; split <;> rfl
      have := block_lt h0
      rw [hb] at this
      exact this
end
end Hed
end Go.Proofs.YtmjdcpcndggflaaDoor
