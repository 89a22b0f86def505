/- The document's Lay, in one form. -/
import Derived.Test.YtgjgoflkbcmgnaaArenaRefLay2
set_option linter.unusedVariables false
set_option linter.unusedSimpArgs false
namespace Go.Proofs.Ytgjgoflkbcmgnaa
namespace Arn
open Go.RowKit Hp Go.Maps

def refFoot (v : Value) (l : List RB) : List Nat := v.ownBlock.toList ++ l.flatMap fun x => x.2.ownBlock.toList
theorem mem_refFoot {v : Value} {l : List RB} {k : Nat} : k ∈ refFoot v l ↔ v.ownBlock = some k ∨ ∃ x, x ∈ l ∧ x.2.ownBlock = some k := by simp [refFoot]
/-- An arena of the document's in memory, by value; G: where its list and its rows lie. -/
def RefAt (w : World) (A : Ar) (f0 f1 f2 f3 f4 f5 f6 f7 f8 : Int) (u : Value) (G : List Nat) : Prop :=
  ∃ v l, u = .agg (refCells A f0 f1 f2 f3 f4 f5 f6 f7 f8 v) ∧ l.map Prod.fst = A.L ∧ BlksAt w v l ∧ G = refFoot v l
theorem RefAt.turn {w w' : World} {A : Ar} {f0 f1 f2 f3 f4 f5 f6 f7 f8 : Int} {u : Value} {G F : List Nat} (h : RefAt w A f0 f1 f2 f3 f4 f5 f6 f7 f8 u G) (hT : Frm.Turn F w w') (hG : ∀ k, k ∈ G → k ∉ F) : RefAt w' A f0 f1 f2 f3 f4 f5 f6 f7 f8 u G := by
  obtain ⟨v, l, h1, h2, h3, rfl⟩ := h
  exact ⟨v, l, h1, h2, h3.turn hT (fun k hk => hG k (mem_refFoot.2 (.inl hk))) (fun x hx k hk => hG k (mem_refFoot.2 (.inr ⟨x, hx, hk⟩))), rfl⟩
theorem refLay_any (A : Ar) (f0 f1 f2 f3 f4 f5 f6 f7 f8 : Int) (u : Value) (G : List Nat) (w : World) (h : RefAt w A f0 f1 f2 f3 f4 f5 f6 f7 f8 u G) (hok : A.Ok) (hb : A.births ≤ 100000000) (hlays : A.t.lays ≤ 100000000) (x : Value) (ws : List Int) (hx : WordsAt w x ws) (hws : ws.length ≤ 9223372036854775807) :
    Calls Try.prog 27 #[u, x] w fun e w' => ∃ u' G', e = .returned (.tuple (#[u', .int .u64 (A.lay ws).2.1, .int .i64 (A.lay ws).2.2])) ∧ RefAt w' (A.lay ws).1 f0 f1 f2 f3 f4 f5 f6 f7 f8 u' G' ∧ Frm.Turn [] w w' ∧ ∀ k, k ∈ G' → k ∈ G ∨ (w.heap.size ≤ k ∧ k < w'.heap.size) := by
  obtain ⟨v, l, rfl, hAL, hB, rfl⟩ := h
  obtain ⟨va, vc, rfl⟩ := hB.form
  obtain ⟨a, c, rfl⟩ : ∃ a c, x = .slice a ws.length c := by
    rcases hx with ⟨e1, e2⟩ | ⟨a, c, e1, _⟩
    · exact ⟨none, 0, by rw [e1, e2]; rfl⟩
    · exact ⟨_, _, e1⟩
  have hlen : l.length ≤ 60000 := by
    have u1 := length_le_used (fun x hx => (hok.len x hx).1)
    have u2 := hok.top
    have u3 := hok.peak
    have u4 := hok.cap
    rw [← hAL, List.length_map] at u1
    rw [← hAL] at u2
    omega
  have hu : used (l.map Prod.fst) ≤ 60000 := by
    have u2 := hok.top
    have u3 := hok.peak
    have u4 := hok.cap
    rw [hAL]; omega
  have hlow : ∀ y, y ∈ l → y.1.ws.length ≤ 70000 := fun y hy => by
    have := (hok.len y.1 (by rw [← hAL]; exact List.mem_map_of_mem hy)).2
    omega
  by_cases h1 : ws.length < 1 ∨ 2048 < ws.length
  · refine (refLay_arg (refCells A f0 f1 f2 f3 f4 f5 f6 f7 f8 (.slice va l.length vc)) rfl (refCells_one _ _ _ _ _ _ _ _ _ _ _ _ _) w a ws.length c h1 hws).mono ?_
    rintro e w' ⟨rfl, hT⟩
    have e1 : A.lay ws = (A, 0, 2) := by unfold Ar.lay; rw [if_pos h1]
    rw [e1]
    exact ⟨_, _, rfl, ⟨_, l, rfl, hAL, hB.step hT, rfl⟩, hT, fun k hk => .inl hk⟩
  · by_cases h2 : A.cap < used A.L + ws.length
    · refine (refLay_room A f0 f1 f2 f3 f4 f5 f6 f7 f8 (.slice va l.length vc) l w hB (by omega) (by omega) hlow a ws.length c (by omega) (by omega) (by have := hok.cap; omega) (by rw [hAL]; exact h2)).mono ?_
      rintro e w' ⟨rfl, hT⟩
      have e1 : A.lay ws = (A, 0, 20) := by unfold Ar.lay; rw [if_neg h1, if_pos h2]
      rw [e1]
      exact ⟨_, _, rfl, ⟨_, l, rfl, hAL, hB.step hT, rfl⟩, hT, fun k hk => .inl hk⟩
    · obtain ⟨wa, rfl, hcell⟩ : ∃ wa, a = some wa ∧ ∀ j u, (u64s ws)[j]? = some u → w.cell? (wa.add j) = some u := by
        rcases hx with ⟨_, e2⟩ | ⟨a, c, e1, hc⟩
        · rw [e2] at h1; simp at h1
        · simp only [Value.slice.injEq] at e1
          exact ⟨a, e1.1, hc⟩
      refine (refLay_yes A f0 f1 f2 f3 f4 f5 f6 f7 f8 (.slice va l.length vc) l w hB (by omega) (by omega) hlow hAL hok hb hlays wa ws c hcell (by omega) (by omega) (by omega)).mono ?_
      rintro e w' ⟨v', l', rfl, h3, h4, hT, h5, h6⟩
      have e2 : (A.lay ws).2 = (layH A, 0) := by rw [lay_eq (by omega) (by omega) (by omega)]
      rw [e2]
      refine ⟨_, _, rfl, ⟨v', l', rfl, h3, h4, rfl⟩, hT, fun k hk => ?_⟩
      rcases mem_refFoot.1 hk with hk | ⟨y, hy, hk⟩
      · exact .inr (h5 k hk)
      · rcases h6 y hy with h7 | h7
        · exact .inl (mem_refFoot.2 (.inr ⟨y, h7, hk⟩))
        · exact .inr (h7 k hk)
end Arn
end Go.Proofs.Ytgjgoflkbcmgnaa
