/- Law ClaimRows: for every n and every list of bytes, claims one behind the other have the slots 0, 1, 2 and so on, and the least one that was let go is the next one's. No condition. -/
import Derived.Test.YtgodlddbocmcmaaClaimRowsWalk
import Derived.Deep.Slices
import Derived.WalkKit
import Derived.ProofKit
import Derived.OpenShut
set_option linter.unusedVariables false
set_option linter.unusedSimpArgs false
namespace Go.Proofs.Ytgodlddbocmcmaa
namespace Clm
open Go.ChangeShapes Go.WideShapes Go.Deep Go.ChangeAt Go.RowKit Arn
section
variable {H : Type} {enc : TypeId × Value → H} {w : World} {base : Nat} {sp : Nat → Bool} {held : Bool}
theorem under_u8 : Try.prog.underlying 5 = some (.int .u8) := by kernel_rfl
theorem of_wf_u8 {k : Int} (h : (Lit.int .u8 k).wf = true) : 0 ≤ k ∧ k < 256 := by
  simp [Lit.wf, IntKind.min, IntKind.max, IntKind.bits, IntKind.signed] at h
  exact ⟨h.1, by omega⟩
theorem choose_lt {P : Nat → Int → Prop} {n : Nat} (h : ∀ i, i < n → ∃ z, P i z) : ∃ f : Nat → Int, ∀ i, i < n → P i (f i) :=
  ⟨fun i => if hi : i < n then (h i hi).choose else 0, fun i hi => by simp only [hi, dif_pos]; exact (h i hi).choose_spec⟩
theorem u8_open {ao : Option Addr} {n c : Nat} {d : DataW H} {p : List MemPlace} (h : DataW.Trod enc Try.prog w base sp held 22 (.slice ao n c) d p) :
    ∃ ws, U8At w (.slice ao n c) ws ∧ (∀ u, u ∈ ws → 0 ≤ u ∧ u < 256) ∧ ws.length ≤ maxLen := by
  obtain ⟨fuel, hf⟩ := h
  rcases open_slice1 under_u8s (by kernel_rfl) hf with ⟨e, _⟩ | ⟨a, len, cap, m, n', V, D, Pl, e, _, hl, _, hm, _, hi⟩
  · simp [Value.cells] at e
    obtain ⟨rfl, rfl, rfl⟩ := e
    exact ⟨[], .inl ⟨rfl, rfl⟩, by simp, by simp⟩
  · simp [Value.cells] at e
    obtain ⟨rfl, rfl, rfl⟩ := e
    have hlm : n ≤ m := by rw [hm]; split <;> omega
    have hz : ∀ i, i < n → ∃ z : Int, w.cell? (a.add i) = some (.int .u8 z) ∧ (0 ≤ z ∧ z < 256) := fun i hil => by
      obtain ⟨h1, h2⟩ := hi i (by omega)
      obtain ⟨z, hz, _, hw⟩ := DataW.trod_int under_u8 h2
      simp at hz
      exact ⟨z, by rw [h1, hz], of_wf_u8 hw⟩
    obtain ⟨f, hf⟩ := choose_lt hz
    refine ⟨(List.range n).map f, .inr ⟨a, c, by simp, by simpa using hl, fun j u hu => ?_⟩, fun u hu => ?_, by simp; omega⟩
    · simp only [List.map_map, List.getElem?_map] at hu
      obtain ⟨i, hi1, hi2⟩ := Option.map_eq_some_iff.1 hu
      obtain ⟨hlt, e⟩ := List.getElem?_eq_some_iff.1 hi1
      rw [List.getElem_range] at e
      subst e
      rw [List.length_range] at hlt
      rw [(hf j hlt).1, ← hi2]; rfl
    · obtain ⟨i, hi1, rfl⟩ := List.mem_map.1 hu
      exact (hf i (List.mem_range.1 hi1)).2
end
end Clm
namespace claimRows
open Go.ChangeShapes Go.WideShapes Go.ChangeAt Go.RowKit
theorem laidOut : laidOutB Try.prog = true := by kernel_rfl
theorem own : ownKnob Try.prog.godebug = none := by kernel_rfl

set_option maxRecDepth 100000 in
theorem lifted (os : Os) (started : os.Started) (H : Type) (enc : TypeId × Value → H) :
    ReturnsInHanded {} Try.checked os 4 .any (Rows.claimRowsSpec.pre6 enc Try.prog Try.f4 Rows.claimRowsRow.domain false) (Rows.claimRowsSpec.post enc Try.prog Try.f4 false true false false) := by
  refine returnsInHanded_of_change (C := Try.checked) own started (by kernel_rfl) Try.func4
    (ChangeSpec.witness6 (enc := enc) (C := Try.checked) false ⟨#[], #[.int .u8 0, .slice none 0 0], []⟩ 8 (by kernel_rfl) (by kernel_rfl) (by kernel_rfl) (by kernel_rfl)) ?_
  intro W base args ds gs before hval0 hW hcnd _
  have hval : ∀ (j : Nat) t v, Try.f4.params[j]? = some t → args[j]? = some v → Value.okWide Try.prog W .any base t v := hval0
  have hW' := hW
  obtain ⟨p, q, hA0, hV, rfl, hfz, hnd⟩ := hW
  have hA : DataW.TrodAll enc Try.prog W 0 (fun _ => true) true Try.f4.params.toList args.toList ds p := hA0
  rw [Try.params4] at hA hval
  obtain ⟨v0, v1, d0, d1, p0, p1, rfl, rfl, rfl, h0, h1⟩ := trodAll_two hA
  obtain ⟨rfl, rfl⟩ := trodVars_none hV
  obtain ⟨a0, rfl, rfl, rfl, w0⟩ := open_int Try.underlying5 (hval 0 5 v0 rfl rfl) h0
  obtain ⟨a1, n1, c1, rfl⟩ := okWide_slice (Try.underlying22) (hval 1 22 v1 rfl rfl)
  clear hA0 hval0
  simp only [List.append_nil] at hW'
  have k0 := Clm.of_wf_u8 w0
  obtain ⟨n, rfl⟩ : ∃ n : Nat, a0 = (n : Int) := ⟨a0.toNat, by omega⟩
  have hlt1 : ∀ x ∈ p1, x.block < W.heap.size := fun x hx => by simpa using hW'.lt x (by simp [hx])
  obtain ⟨pl, k4, k5, k6⟩ := Clm.u8_open h1
  refine (Clm.rows_any n _ pl W (by omega) k4 k5).mono fun e W' ⟨he, ht⟩ => ?_
  subst he
  have hnx : Below W.heap.size W W' := ht.below (Nat.le_refl _) (by simp)
  refine ⟨_, rfl, _, _, _, [], [] ++ p1, [], hW', ?_, ?_, rfl, hnx.frame _, fun h => by cases h⟩
  · exact trodAll_cons_mk (shut_bool Try.underlying4 _) trodAll_mk0
  · exact trodAll_mk2 (shut_int Try.underlying5 w0) (Below.trod laidOut (by kernel_rfl) (of_decide_eq_true (by kernel_rfl)) h1 hnx hlt1)

theorem over : Rows.claimRowsRow.holds Try.pinned (OpenSpec.ofChange Rows.claimRowsSpec) :=
  OpenClaim.holds_of_wide 4 Try.f4 rfl rfl rfl rfl rfl rfl rfl ⟨rfl, rfl, rfl, rfl, rfl⟩ rfl rfl rfl rfl rfl (by kernel_rfl) Try.func4 (by kernel_rfl)
    (of_decide_eq_true (by kernel_rfl)) (by unfold Func.isWrapper; first | (rw [if_pos (by decide +kernel)]; kernel_rfl) | (rw [if_neg (by decide +kernel)]; exact ⟨rfl, rfl⟩))
    (fun os started H enc _ => lifted os started H enc)

theorem proved : Rows.ClaimRowsSaid :=
  over
#print axioms proved
end claimRows
end Go.Proofs.Ytgodlddbocmcmaa
