/- Law HoldPlays, where what is handed over is of bulk at most 1048576: for every case the machines among those that the case makes tell at each pick what the document tells, and the arena is the one of the document. Beyond that bound the sum of all lengths can pass what an int holds. -/
import Derived.Test.YtlghinjggkgfmaaGreatHoldPlays
import Derived.Test.YtlghinjggkgfmaaGreatHoldPlaysOpen
set_option linter.unusedVariables false
set_option linter.unusedSimpArgs false
namespace Go.Proofs.YtlghinjggkgfmaaGreat.holdPlays
open Go.ChangeShapes Go.WideShapes Go.ChangeAt Go.RowKit
theorem laidOut : laidOutB Tryz.prog = true := by kernel_rfl
theorem own : ownKnob Tryz.prog.godebug = none := by kernel_rfl
set_option maxRecDepth 100000 in
theorem case_cells {W : World} {base : Nat} {c0 c1 c2 c3 : Value} (h : Value.okWide Tryz.prog W .any base 96 (.agg #[c0, c1, c2, c3])) :
    Cell.okWide Tryz.prog W .any base 94 c1 := by
  simp only [Value.okWide, Tryz.underlying96] at h
  obtain ⟨cs, e, _, ts, hts, _, hi⟩ := h
  cases e
  have hct : Tryz.prog.cellTypes Tryz.prog.depth 96 = some [52, 94, 55, 24] := by kernel_rfl
  rw [hct] at hts
  obtain rfl := Option.some.inj hts
  obtain ⟨t1, g1, k1⟩ := hi 1 c1 rfl
  cases g1
  exact k1

set_option maxRecDepth 100000 in
theorem contract (H : Type) (enc : TypeId × Value → H) (W : World) (base : Nat) (args : Array Value) (ds gs : List (DataW H)) (before : List MemPlace)
    (hval0 : ∀ (j : Nat) t v, Tryz.f7.params[j]? = some t → args[j]? = some v → Value.okWide Tryz.prog W .any base t v)
    (hW : DataW.Whole enc Tryz.prog Tryz.f7.params.toList Rows.holdPlaysSpec.vars false W args.toList ds gs before) (hk : Rows.uptoSmall H (ds ++ gs) = true) :
    Calls Tryz.prog 7 args W fun e W' => ∃ v, e = .returned v ∧ Rows.holdPlaysSpec.post enc Tryz.prog Tryz.f7 false true false false W args v W' := by
  have hval : ∀ (j : Nat) t v, Tryz.f7.params[j]? = some t → args[j]? = some v → Value.okWide Tryz.prog W .any base t v := hval0
  have hW' := hW
  obtain ⟨p, q, hA0, hV, rfl, hfz, hnd⟩ := hW
  have hA : DataW.TrodAll enc Tryz.prog W 0 (fun _ => true) true Tryz.f7.params.toList args.toList ds p := hA0
  rw [Tryz.params7] at hA hval
  obtain ⟨v0, d0, rfl, rfl, h0⟩ := trodAll_one hA
  obtain ⟨rfl, rfl⟩ := trodVars_none hV
  clear hA0 hval0
  simp only [List.append_nil] at hW' hk
  have hlt : ∀ x ∈ p, x.block < W.heap.size := fun x hx => by simpa using hW'.lt x hx
  have hk2 := Hld.bk_one hk
  have h0' := h0
  have hv0 := hval 0 96 v0 rfl rfl
  have hv0' := hv0
  have hus := Tryz.underlying96
  obtain ⟨u0, u1, u2, u3, y0, y1, y2, y3, n, rfl, rfl, hp1, e0, e1, e2, e3⟩ := Go.Joins.open_agg4 hus (by kernel_rfl) (by kernel_rfl) hv0 h0
  have k1 := case_cells hv0'
  obtain ⟨aw, nw, cw, hx⟩ := Go.Joins.slice_form Hld.under_ll e0
  simp only [List.cons.injEq, and_true] at hx
  subst hx
  obtain ⟨aj, nj, cj, hx⟩ := Go.Joins.slice_form Hld.under_jl e1
  simp only [List.cons.injEq, and_true] at hx
  subst hx
  obtain ⟨ap, np, cp, hx⟩ := Go.Joins.slice_form Hld.under_u8s e2
  simp only [List.cons.injEq, and_true] at hx
  subst hx
  obtain ⟨ar, nr, cr, hx⟩ := Go.Joins.slice_form Hld.under_w64s e3
  simp only [List.cons.injEq, and_true] at hx
  subst hx
  obtain ⟨u, l, hL, hl64, hsum⟩ := Hld.lst_open e0
  obtain ⟨zJ, hJ, hJ64, hJn⟩ := Hld.job_open (fun a e => by subst e; exact Hld.spot_none Hld.under_jl k1) e1
  obtain ⟨zP, hP, hP8, hPn⟩ := Hld.kind_bulk (Q := fun k => 0 ≤ k ∧ k < 256) Hld.under_u8s Hld.under_u8 Hld.info_u8' (fun _ h => Hld.of_wf_8 h) e2
  obtain ⟨zR, hR, hR64, hRn⟩ := Hld.kind_bulk (Q := Arn.W64) Hld.under_w64s Hld.under_w64 Hld.info_u64' (fun _ h => Hld.of_wf_64 h) e3
  have hb4 := Hld.bk_four y0.1 y1.1 y2.1 y3.1
  refine (Hld.plays14_any W (.slice aw nw cw) (.slice aj nj cj) (.slice ap np cp) (.slice ar nr cr) u l zJ zP zR nw nj np nr hL hl64 hJ hJ64 hP hP8 hR hR64 (by omega) (by omega)).mono fun e W' ⟨he, ht⟩ => ?_
  subst he
  have hnx : Below W.heap.size W W' := ht.below (Nat.le_refl _) (by simp)
  refine ⟨_, rfl, _, _, _, [], p, [], hW', ?_, ?_, rfl, hnx.frame _, fun h => by cases h⟩
  · exact trodAll_cons_mk (shut_bool Tryz.underlying4 _) trodAll_mk0
  · exact trodAll_mk1 (Below.trod laidOut (by kernel_rfl) (of_decide_eq_true (by kernel_rfl)) h0' hnx hlt)

set_option maxRecDepth 100000 in
theorem lifted (os : Os) (started : os.Started) (H : Type) (enc : TypeId × Value → H) (F : Stop.Interp) :
    ReturnsInHanded {} Tryz.checked os 7 .any ((Rows.OpenSpec.upto Rows.holdPlaysSpec).pre6 enc Tryz.prog Tryz.f7 Rows.holdPlaysUptoRow.domain false) (((Rows.OpenSpec.upto Rows.holdPlaysSpec).at F).post enc Tryz.prog Tryz.f7 false true false false) := by
  refine returnsInHanded_of_cond (C := Tryz.checked) (s := Rows.OpenSpec.upto Rows.holdPlaysSpec) (k := Rows.uptoSmall) rfl own started (by kernel_rfl) Tryz.func7
    (OpenSpec.witness (enc := enc) (C := Tryz.checked) (s := Rows.OpenSpec.upto Rows.holdPlaysSpec) (k := Rows.uptoSmall) rfl false ⟨#[], #[.agg #[.slice none 0 0, .slice none 0 0, .slice none 0 0, .slice none 0 0]], []⟩ 8 (by kernel_rfl) (by kernel_rfl) (by kernel_rfl)
      (x := ([.agg [.nil, .nil, .nil, .nil]], [], [])) (by kernel_rfl) rfl (by kernel_rfl)) ?_
  intro W base args ds gs before hval hW _ hk _
  exact contract H enc W base args ds gs before hval hW hk

theorem over : Rows.holdPlaysUptoRow.holds Tryz.pinned (Rows.OpenSpec.upto Rows.holdPlaysSpec) :=
  OpenClaim.holds_of_cond 7 Tryz.f7 rfl rfl rfl rfl rfl rfl rfl ⟨rfl, rfl, rfl, rfl, rfl⟩ rfl rfl rfl rfl rfl (by kernel_rfl) Tryz.func7 (by kernel_rfl)
    (of_decide_eq_true (by kernel_rfl)) (by unfold Func.isWrapper; first | (rw [if_pos (by decide +kernel)]; kernel_rfl) | (rw [if_neg (by decide +kernel)]; exact ⟨rfl, rfl⟩))
    (fun os started H enc _ F => lifted os started H enc F)

theorem proved : Rows.HoldPlaysUptoSaid :=
  over
#print axioms proved
end Go.Proofs.YtlghinjggkgfmaaGreat.holdPlays
