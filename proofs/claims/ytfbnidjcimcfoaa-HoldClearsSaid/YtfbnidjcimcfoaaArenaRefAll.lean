/- The document's Lay and Free, over its arena with its fixed words. -/
import Derived.Test.YtfbnidjcimcfoaaArenaRefOps
set_option linter.unusedVariables false
set_option linter.unusedSimpArgs false
namespace Go.Proofs.Ytfbnidjcimcfoaa
namespace Arn
open Go.RowKit Hp Go.Maps

theorem lay_fixed (A : Ar) (ws : List Int) : (A.lay ws).1.fixed = A.fixed := by unfold Ar.lay; split; rfl; split <;> rfl
theorem free_fixed (A : Ar) (k : Int) : (A.free k).1.fixed = A.fixed := by unfold Ar.free; split <;> rfl
theorem refLay_s (A : Ar) (u : Value) (G : List Nat) (w : World) (h : RefS w A u G) (hok : A.Ok) (hb : A.births ≤ 100000000) (hlays : A.t.lays ≤ 100000000) (x : Value) (ws : List Int) (hx : WordsAt w x ws) (hws : ws.length ≤ 9223372036854775807) :
    Calls Try.prog 29 #[u, x] w fun e w' => ∃ u' G', e = .returned (.tuple #[u', .int .u64 (A.lay ws).2.1, .int .i64 (A.lay ws).2.2]) ∧ RefS w' (A.lay ws).1 u' G' ∧ Frm.Turn [] w w' ∧ ∀ k, k ∈ G' → k ∈ G ∨ (w.heap.size ≤ k ∧ k < w'.heap.size) := by
  obtain ⟨f0, f1, f2, f3, f4, f5, f6, f7, f8, hfix, hr⟩ := h
  refine (refLay_any A f0 f1 f2 f3 f4 f5 f6 f7 f8 u G w hr hok hb hlays x ws hx hws).mono ?_
  rintro e w' ⟨u', G', he, h1, hT, hG⟩
  exact ⟨u', G', he, ⟨f0, f1, f2, f3, f4, f5, f6, f7, f8, by rw [lay_fixed]; exact hfix, h1⟩, hT, hG⟩
/-- The document's arena as it begins. -/
theorem refS_new (w : World) (cap : Nat) : RefS w (Ar.new cap) (.agg #[.int .i64 cap, .int .i64 0, .int .i64 0, .int .i64 0, .int .u64 0, .int .u64 0, .int .u64 0, .int .u64 0, .int .u64 0, .int .u64 0, .int .u64 0, .int .u64 0, .int .u64 0, .slice none 0 0, .int .i64 0, .int .i64 0, .int .i64 0, .int .i64 0, .int .i64 0, .int .i64 0]) [] :=
  ⟨0, 0, 0, 0, 0, 0, 0, 0, 0, rfl, .slice none 0 0, [], by simp [refCells, Ar.new], rfl, ⟨.inl ⟨rfl, rfl⟩, by simp⟩, rfl⟩
end Arn
end Go.Proofs.Ytfbnidjcimcfoaa
