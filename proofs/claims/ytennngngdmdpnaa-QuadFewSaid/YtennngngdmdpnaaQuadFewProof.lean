/- Law QuadFew: for all blocks and every root, a tree has no more nodes than four for each key, and its keys rise. No condition. -/
import Derived.Test.YtennngngdmdpnaaQuadFew
import Derived.Test.YtennngngdmdpnaaRows
import Derived.Deep.Slices
import Derived.Deep.Fields
import Derived.ChangeSame
import Derived.WalkKit
import Derived.ProofKit
import Derived.OpenShut
set_option linter.unusedVariables false
set_option linter.unusedSimpArgs false
namespace Go.Proofs.Ytennngngdmdpnaa
namespace Qud
open Go.RowKit Go.Maps Arn Go.ChangeShapes Go.WideShapes Go.Deep Go.ChangeAt
theorem spot_of {P : Program} {w : World} {r : Reach} {base : Nat} {t e : TypeId} (ht : P.underlying t = some (.slice e)) {a : Addr} {len cap : Nat} (h : Cell.okWide P w r base t (.slice (some a) len cap)) : a.spot = none := by
  simp only [Cell.okWide, ht, Cell.ok] at h
  exact h.2.2.2.1
theorem spot_val {P : Program} {w : World} {r : Reach} {base : Nat} {t e : TypeId} (ht : P.underlying t = some (.slice e)) {a : Addr} {len cap : Nat} (h : Value.okWide P w r base t (.slice (some a) len cap)) : a.spot = none := by
  simp only [Value.okWide, ht] at h
  exact spot_of ht h
theorem add_at (g o k : Nat) : (⟨g, o, none⟩ : Addr).add k = ⟨g, o + k, none⟩ := by
  unfold Addr.add; split
  · rename_i e; simp [e]
  · rfl
section
variable {H : Type} {enc : TypeId × Value → H} {w : World} {base : Nat} {sp : Nat → Bool} {held : Bool}
theorem words_len {fuel : Nat} {cs : List Value} {x : DataW H × List MemPlace} (h : DataW.trod enc Try.prog w base sp held fuel 47 cs = some x) :
    ∃ ao wc ws, cs = [.slice ao ws.length wc] ∧ WordsAt w (.slice ao ws.length wc) ws ∧ (∀ u, u ∈ ws → W64 u) ∧ ws.length ≤ 9223372036854775807 := by
  rcases open_slice1 under_u64s (by kernel_rfl) h with ⟨rfl, rfl⟩ | ⟨a, len, cap, m, n, V, D, Pl, rfl, _, hl, hc, hm, rfl, hi⟩
  · exact ⟨none, 0, [], rfl, .inl ⟨rfl, rfl⟩, by simp, by simp⟩
  · have hlm : len ≤ m := by rw [hm]; split <;> omega
    have hz : ∀ i, i < len → ∃ z : Int, w.cell? (a.add i) = some (.int .u64 z) ∧ W64 z := fun i hil => by
      obtain ⟨h1, h2⟩ := hi i (by omega)
      obtain ⟨z, hz, _, hw⟩ := DataW.trod_int under_u64 h2
      simp at hz
      exact ⟨z, by rw [h1, hz], of_wf_u64 hw⟩
    obtain ⟨f, hf⟩ := choose_lt hz
    have hle : ((List.range len).map f).length = len := by simp
    refine ⟨some a, cap, (List.range len).map f, by rw [hle], .inr ⟨a, cap, rfl, fun j u hu => ?_⟩, fun u hu => ?_, ?_⟩
    · simp only [u64s, List.map_map, List.getElem?_map] at hu
      obtain ⟨i, hi1, hi2⟩ := Option.map_eq_some_iff.1 hu
      obtain ⟨hlt, e⟩ := List.getElem?_eq_some_iff.1 hi1
      rw [List.getElem_range] at e
      subst e
      rw [List.length_range] at hlt
      rw [(hf j hlt).1, ← hi2]; rfl
    · obtain ⟨i, hi1, rfl⟩ := List.mem_map.1 hu
      exact (hf i (List.mem_range.1 hi1)).2
    · rw [hle]; unfold maxLen at hc; omega
theorem rows_open {fuel : Nat} {a0 : Option Addr} {len cap : Nat} {x : DataW H × List MemPlace} (hsp : ∀ a, a0 = some a → a.spot = none) (h : DataW.trod enc Try.prog w base sp held fuel 33 [.slice a0 len cap] = some x) :
    ∃ R : List RowV, R.length = len ∧ RowsAt w (.slice a0 len cap) R ∧ (∀ y, y ∈ R → (∀ z, z ∈ y.2 → W64 z) ∧ y.2.length ≤ 9223372036854775807) ∧ R.length ≤ 9223372036854775807 := by
  rcases open_slice1 under_rows (by kernel_rfl) h with ⟨e, rfl⟩ | ⟨a, len', cap', m, n, V, D, Pl, e, _, hl, hc, hm, rfl, hi⟩
  · simp only [List.cons.injEq, Value.slice.injEq, and_true] at e
    obtain ⟨rfl, rfl, rfl⟩ := e
    exact ⟨[], rfl, ⟨.inl ⟨rfl, rfl⟩, by simp⟩, by simp, by simp⟩
  · simp only [List.cons.injEq, Value.slice.injEq, and_true] at e
    obtain ⟨rfl, rfl, rfl⟩ := e
    have hlm : len ≤ m := by rw [hm]; split <;> omega
    have hz : ∀ i, i < len → ∃ y : RowV, w.cell? (a.add i) = some y.1 ∧ WordsAt w y.1 y.2 ∧ (∀ z, z ∈ y.2 → W64 z) ∧ y.2.length ≤ 9223372036854775807 := fun i hil => by
      obtain ⟨h1, h2⟩ := hi i (by omega)
      obtain ⟨ao, wc, ws, e, hw, hW, hb⟩ := words_len h2
      simp only [List.cons.injEq, and_true] at e
      exact ⟨(.slice ao ws.length wc, ws), by rw [h1, e], hw, hW, hb⟩
    obtain ⟨f, hf⟩ := choose_lt hz
    obtain ⟨g, o, spot⟩ := a
    obtain rfl : spot = none := hsp _ rfl
    have hle : ((List.range len).map f).length = len := by simp
    refine ⟨(List.range len).map f, hle, ⟨.inr ⟨g, o, cap, by rw [hle], by omega, hc, fun j y hy => ?_⟩, fun y hy => ?_⟩, fun y hy => ?_, ?_⟩
    · rw [List.getElem?_map] at hy
      obtain ⟨i, hi1, rfl⟩ := Option.map_eq_some_iff.1 hy
      obtain ⟨hlt, e⟩ := List.getElem?_eq_some_iff.1 hi1
      rw [List.getElem_range] at e
      subst e
      rw [List.length_range] at hlt
      have := (hf j hlt).1
      rwa [add_at] at this
    · obtain ⟨i, hi1, rfl⟩ := List.mem_map.1 hy
      exact (hf i (List.mem_range.1 hi1)).2.1
    · obtain ⟨i, hi1, rfl⟩ := List.mem_map.1 hy
      obtain ⟨_, _, h3, h4⟩ := hf i (List.mem_range.1 hi1)
      exact ⟨h3, h4⟩
    · rw [hle]; unfold maxLen at hc; omega
end
end Qud
end Go.Proofs.Ytennngngdmdpnaa
namespace Go.Proofs.Ytennngngdmdpnaa.quadFew
open Go.ChangeShapes Go.WideShapes Go.ChangeAt Go.RowKit Qud
theorem laidOut : laidOutB Try.prog = true := by kernel_rfl
theorem own : ownKnob Try.prog.godebug = none := by kernel_rfl
set_option maxRecDepth 100000 in
theorem lifted (os : Os) (started : os.Started) (H : Type) (enc : TypeId × Value → H) :
    ReturnsInHanded {} Try.checked os 4 .any (Rows.quadFewSpec.pre6 enc Try.prog Try.f4 Rows.quadFewRow.domain false) (Rows.quadFewSpec.post enc Try.prog Try.f4 false true false false) := by
  refine returnsInHanded_of_change (C := Try.checked) own started (by kernel_rfl) Try.func4
    (ChangeSpec.witness6 (enc := enc) (C := Try.checked) false ⟨#[], #[.slice none 0 0, .int .u64 0], []⟩ 8 (by kernel_rfl) (by kernel_rfl) (by kernel_rfl) (by kernel_rfl)) ?_
  intro W base args ds gs before hval0 hW hcnd _
  have hval : ∀ (j : Nat) t v, Try.f4.params[j]? = some t → args[j]? = some v → Value.okWide Try.prog W .any base t v := hval0
  have hW' := hW
  obtain ⟨p, q, hA0, hV, rfl, hfz, hnd⟩ := hW
  have hA : DataW.TrodAll enc Try.prog W 0 (fun _ => true) true Try.f4.params.toList args.toList ds p := hA0
  rw [Try.params4] at hA hval
  obtain ⟨v0, v1, d0, d1, p0, p1, rfl, rfl, rfl, h0, h1⟩ := trodAll_two hA
  obtain ⟨rfl, rfl⟩ := trodVars_none hV
  have hv0 := hval 0 33 v0 rfl rfl
  obtain ⟨a0, len, cap, rfl⟩ := okWide_slice Try.underlying33 hv0
  obtain ⟨a1, rfl, rfl, rfl, w1⟩ := open_int Try.underlying22 (hval 1 22 v1 rfl rfl) h1
  clear hA0 hval0
  have hlt : ∀ x ∈ p0, x.block < W.heap.size := fun x hx => by simpa using hW'.lt x (by simp [hx])
  have h0' := h0
  obtain ⟨n0, t0⟩ := h0
  have t0' : DataW.trod enc Try.prog W 0 (fun _ => true) true n0 33 [.slice a0 len cap] = some (d0, p0) := t0
  obtain ⟨R, hRl, hR, hR64, hRm⟩ := Qud.rows_open (fun a e => by subst e; exact Qud.spot_val Try.underlying33 hv0) t0'
  subst hRl
  refine (Qud.few_any (.slice a0 R.length cap) R a1 (Arn.of_wf_u64 w1) W hR hRm hR64).mono fun e W' ⟨he, ht⟩ => ?_
  subst he
  have hnx : Below W.heap.size W W' := ht.below (Nat.le_refl _) (by simp)
  refine ⟨_, rfl, _, _, _, [], p0 ++ [], [], hW', ?_, ?_, rfl, hnx.frame _, fun h => by cases h⟩
  · exact trodAll_cons_mk (shut_bool Try.underlying4 _) trodAll_mk0
  · exact trodAll_mk2 (Below.trod laidOut (by kernel_rfl) (of_decide_eq_true (by kernel_rfl)) h0' hnx hlt) (shut_int Try.underlying22 w1)

theorem over : Rows.quadFewRow.holds Try.pinned (OpenSpec.ofChange Rows.quadFewSpec) :=
  OpenClaim.holds_of_wide 4 Try.f4 rfl rfl rfl rfl rfl rfl rfl ⟨rfl, rfl, rfl, rfl, rfl⟩ rfl rfl rfl rfl rfl (by kernel_rfl) Try.func4 (by kernel_rfl)
    (of_decide_eq_true (by kernel_rfl)) (by unfold Func.isWrapper; first | (rw [if_pos (by decide +kernel)]; kernel_rfl) | (rw [if_neg (by decide +kernel)]; exact ⟨rfl, rfl⟩))
    (fun os started H enc _ => lifted os started H enc)

theorem proved : Rows.QuadFewSaid :=
  over
#print axioms proved
end Go.Proofs.Ytennngngdmdpnaa.quadFew
