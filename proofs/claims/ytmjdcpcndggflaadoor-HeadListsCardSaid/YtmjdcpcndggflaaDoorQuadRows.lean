/- Rows of words, as an argument of the laws. -/
import Derived.Test.YtmjdcpcndggflaaDoorArenaSin
set_option linter.unusedVariables false
set_option linter.unusedSimpArgs false
namespace Go.Proofs.YtmjdcpcndggflaaDoor
namespace Qud
open Go.RowKit Go.Maps Arn

abbrev RowV := Value × List Int
theorem under_rows : Tryd.prog.underlying 39 = some (.slice 28) := by kernel_rfl
/-- A list of rows, cut from the front. -/
def RowsAt (w : World) (v : Value) (R : List RowV) : Prop :=
  ((v = .slice none 0 0 ∧ R = []) ∨ ∃ g o c, v = .slice (some ⟨g, o, none⟩) R.length c ∧ R.length ≤ c ∧ c ≤ maxLen ∧ ∀ j x, R[j]? = some x → w.cell? ⟨g, o + j, none⟩ = some x.1) ∧ ∀ x, x ∈ R → WordsAt w x.1 x.2
def rowBlocks (R : List RowV) : List Nat := R.flatMap fun x => x.1.ownBlock.toList
theorem mem_rowBlocks {R : List RowV} {k : Nat} : k ∈ rowBlocks R ↔ ∃ x, x ∈ R ∧ x.1.ownBlock = some k := by simp [rowBlocks]
theorem RowsAt.turn {w w' : World} {v : Value} {R : List RowV} {F : List Nat} (h : RowsAt w v R) (ht : Frm.Turn F w w') (hn : ∀ k, v.ownBlock = some k → k ∉ F) (hr : ∀ k, k ∈ rowBlocks R → k ∉ F) : RowsAt w' v R := by
  refine ⟨?_, fun x hx => (h.2 x hx).turn ht (fun k hk => hr k (mem_rowBlocks.2 ⟨x, hx, hk⟩))⟩
  rcases h.1 with ⟨h1, h2⟩ | ⟨g, o, c, rfl, hc, hm, h1⟩
  · exact .inl ⟨h1, h2⟩
  · exact .inr ⟨g, o, c, rfl, hc, hm, fun j u hu => ht.cell (h1 j u hu) (hn g rfl)⟩
theorem rows_form {w : World} {v : Value} {R : List RowV} (h : RowsAt w v R) : ∃ a c, v = .slice a R.length c := by
  rcases h.1 with ⟨h1, rfl⟩ | ⟨g, o, c, h1, _⟩
  · exact ⟨none, 0, h1⟩
  · exact ⟨_, c, h1⟩
theorem rows_cell {w : World} {a : Option Addr} {n c : Nat} {R : List RowV} (h : RowsAt w (.slice a n c) R) {j : Nat} {y : RowV} (hy : R[j]? = some y) : ∃ g o, a = some ⟨g, o, none⟩ ∧ w.cell? ⟨g, o + j, none⟩ = some y.1 := by
  rcases h.1 with ⟨_, rfl⟩ | ⟨g, o, c, h1, _, _, h2⟩
  · simp at hy
  · simp only [Value.slice.injEq] at h1
    exact ⟨g, o, h1.1, h2 j y hy⟩
theorem words_form {w : World} {v : Value} {l : List Int} (h : WordsAt w v l) : ∃ a c, v = .slice a l.length c := by
  rcases h with ⟨h1, rfl⟩ | ⟨a, c, h1, _⟩
  · exact ⟨none, 0, h1⟩
  · exact ⟨_, c, h1⟩
theorem cell_lt {w : World} {a : Addr} {u : Value} (h : w.cell? a = some u) : a.block < w.heap.size := by
  rcases Nat.lt_or_ge a.block w.heap.size with h1 | h1
  · exact h1
  · simp [World.cell?, Array.getElem?_eq_none h1] at h
theorem words_lt {w : World} {v : Value} {ws : List Int} (h : WordsAt w v ws) (hn : ws ≠ []) : ∀ k, v.ownBlock = some k → k < w.heap.size := fun k hk => by
  rcases h with ⟨_, e⟩ | ⟨a, c, rfl, hc⟩
  · exact absurd e hn
  · obtain ⟨x, t, rfl⟩ := List.exists_cons_of_ne_nil hn
    have h0 := cell_lt (hc 0 (.int .u64 x) rfl)
    have hb : (a.add 0).block = a.block := by unfold Addr.add; split <;> rfl
    rw [hb] at h0
    simp [Value.ownBlock] at hk
    omega
end Qud
end Go.Proofs.YtmjdcpcndggflaaDoor
