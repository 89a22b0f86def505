/- Law QuadTells: for every node, key, level and word, Digit, With and Greatest tell what the document tells. No condition. -/
import Derived.Test.YtennngngdmdpnaaQuadTells
import Derived.Test.YtennngngdmdpnaaQuadOpen
import Derived.WalkKit
import Derived.ProofKit
import Derived.OpenShut
set_option linter.unusedVariables false
set_option linter.unusedSimpArgs false
namespace Go.Proofs.Ytennngngdmdpnaa.quadTells
open Go.ChangeShapes Go.WideShapes Go.ChangeAt Go.RowKit Qud
theorem laidOut : laidOutB Try.prog = true := by kernel_rfl
theorem own : ownKnob Try.prog.godebug = none := by kernel_rfl
theorem cells_case : Try.prog.cellsOf 26 = 7 := by kernel_rfl
set_option maxRecDepth 100000 in
theorem open_case {H : Type} {enc : TypeId × Value → H} {W : World} {base base' : Nat} {sp : Nat → Bool} {held : Bool} {v : Value} {d : DataW H} {p : List MemPlace}
    (hv : Value.okWide Try.prog W .any base' 26 v) (h : DataW.Trod enc Try.prog W base sp held 26 v d p) :
    ∃ x0 x1 x2 x3 k l u : Int, v = .agg #[.int .u64 x0, .int .u64 x1, .int .u64 x2, .int .u64 x3, .int .i64 k, .int .i64 l, .int .u64 u] ∧ I64 k ∧ I64 l := by
  obtain ⟨cs, rfl, hsz⟩ := okWide_struct Try.underlying26 hv
  rw [cells_case] at hsz
  obtain ⟨l⟩ := cs
  obtain ⟨fuel, hf⟩ := h
  have hf' : DataW.trod enc Try.prog W base sp held fuel 26 l = some (d, p) := hf
  obtain ⟨n1, y1, h1⟩ := part_field Try.underlying26 hf' (i := 0) (ty := 24) (off := 0) (by kernel_rfl)
  obtain ⟨k, hk, wk⟩ := int_field Try.underlying26 hf' (i := 1) (ty := 3) (off := 4) (q := .i64) (by kernel_rfl) under_int (by kernel_rfl)
  obtain ⟨lv, hl, wl⟩ := int_field Try.underlying26 hf' (i := 2) (ty := 3) (off := 5) (q := .i64) (by kernel_rfl) under_int (by kernel_rfl)
  obtain ⟨u, hu, wu⟩ := int_field Try.underlying26 hf' (i := 3) (ty := 22) (off := 6) (q := .u64) (by kernel_rfl) Arn.under_u64 (by kernel_rfl)
  rw [cells_node] at h1
  obtain ⟨x0, x1, x2, x3, he, _⟩ := node_open h1
  match l, hsz with
  | [c0, c1, c2, c3, c4, c5, c6], _ =>
    simp at hk hl hu he
    obtain ⟨rfl, rfl, rfl, rfl⟩ := he
    subst hk hl hu
    exact ⟨x0, x1, x2, x3, k, lv, u, rfl, of_wf_i64 wk, of_wf_i64 wl⟩

set_option maxRecDepth 100000 in
theorem lifted (os : Os) (started : os.Started) (H : Type) (enc : TypeId × Value → H) :
    ReturnsInHanded {} Try.checked os 3 .any (Rows.quadTellsSpec.pre6 enc Try.prog Try.f3 Rows.quadTellsRow.domain false) (Rows.quadTellsSpec.post enc Try.prog Try.f3 false true false false) := by
  refine returnsInHanded_of_change (C := Try.checked) own started (by kernel_rfl) Try.func3
    (ChangeSpec.witness6 (enc := enc) (C := Try.checked) false ⟨#[], #[.agg #[.int .u64 0, .int .u64 0, .int .u64 0, .int .u64 0, .int .i64 0, .int .i64 0, .int .u64 0]], []⟩ 8 (by kernel_rfl) (by kernel_rfl) (by kernel_rfl) (by kernel_rfl)) ?_
  intro W base args ds gs before hval0 hW hcnd _
  have hval : ∀ (j : Nat) t v, Try.f3.params[j]? = some t → args[j]? = some v → Value.okWide Try.prog W .any base t v := hval0
  have hW' := hW
  obtain ⟨p, q, hA0, hV, rfl, hfz, hnd⟩ := hW
  have hA : DataW.TrodAll enc Try.prog W 0 (fun _ => true) true Try.f3.params.toList args.toList ds p := hA0
  rw [Try.params3] at hA hval
  obtain ⟨v0, vs0, d0, ds0, p0, q0, hargs, rfl, rfl, h0, r0⟩ := trodAll_cons hA
  obtain ⟨rfl, rfl, rfl⟩ := trodAll_nil r0
  obtain rfl : args = #[v0] := by cases args; simp_all
  obtain ⟨rfl, rfl⟩ := trodVars_none hV
  obtain ⟨x0, x1, x2, x3, k, l, u, rfl, wk, wl⟩ := open_case (hval 0 26 v0 rfl rfl) h0
  clear hA0 hval0
  have hlt : ∀ x ∈ p0, x.block < W.heap.size := fun x hx => by simpa using hW'.lt x (by simpa using hx)
  refine (Qud.tells_any x0 x1 x2 x3 k l u wk wl W).mono fun e W' ⟨he, ht⟩ => ?_
  subst he
  have hnx : Below W.heap.size W W' := ht.below (Nat.le_refl _) (by simp)
  refine ⟨_, rfl, _, _, _, [], p0 ++ [], [], hW', ?_, ?_, rfl, hnx.frame _, fun h => by cases h⟩
  · exact trodAll_cons_mk (shut_bool Try.underlying4 _) trodAll_mk0
  · exact trodAll_cons_mk (Below.trod laidOut (by kernel_rfl) (of_decide_eq_true (by kernel_rfl)) h0 hnx hlt) trodAll_mk0

theorem over : Rows.quadTellsRow.holds Try.pinned (OpenSpec.ofChange Rows.quadTellsSpec) :=
  OpenClaim.holds_of_wide 3 Try.f3 rfl rfl rfl rfl rfl rfl rfl ⟨rfl, rfl, rfl, rfl, rfl⟩ rfl rfl rfl rfl rfl (by kernel_rfl) Try.func3 (by kernel_rfl)
    (of_decide_eq_true (by kernel_rfl)) (by unfold Func.isWrapper; first | (rw [if_pos (by decide +kernel)]; kernel_rfl) | (rw [if_neg (by decide +kernel)]; exact ⟨rfl, rfl⟩))
    (fun os started H enc _ => lifted os started H enc)

theorem proved : Rows.QuadTellsSaid :=
  over
#print axioms proved
end Go.Proofs.Ytennngngdmdpnaa.quadTells
