/- Law ModelApart: for every list of steps and any two operations upon unlike parts of a model, either order answers and leaves the same. The package's table of operations holds what the program's text lays there (the card ties that). -/
import Derived.Test.YtmodanjblbaedaaDoorModelFrame
import Derived.Test.YtmodanjblbaedaaDoorModelApart
set_option linter.unusedVariables false
set_option linter.unusedSimpArgs false
namespace Go.Proofs.YtmodanjblbaedaaDoor.modelApart
open Go.ChangeShapes Go.WideShapes Go.ChangeAt Go.RowKit Go.Joins Mdl Ops

set_option maxRecDepth 100000 in
theorem contract (H : Type) (enc : TypeId × Value → H) (W : World) (base : Nat) (args : Array Value) (ds gs : List (DataW H)) (before : List MemPlace)
    (hval : ∀ (j : Nat) t v, Tryd.f5.params[j]? = some t → args[j]? = some v → Value.okWide Tryd.prog W .any base t v)
    (hW : DataW.Whole enc Tryd.prog Tryd.f5.params.toList Rows.modelApartSpec.vars false W args.toList ds gs before) (hK : Kn W) :
    Calls Tryd.prog 5 args W fun e W' => ∃ v, e = .returned v ∧ Rows.modelApartSpec.post enc Tryd.prog Tryd.f5 false true false false W args v W' := by
  have hW' := hW
  obtain ⟨p, q, hA0, hV, rfl, hfz, hnd⟩ := hW
  have hA : DataW.TrodAll enc Tryd.prog W 0 (fun _ => true) true Tryd.f5.params.toList args.toList ds p := hA0
  rw [Tryd.params5] at hA hval
  obtain ⟨v0, vs0, d0, ds0, p0, q0, ha0, rfl, rfl, h0, r0⟩ := trodAll_cons hA
  obtain ⟨v1, vs1, d1, ds1, p1, q1, ha1, rfl, rfl, h1, r1⟩ := trodAll_cons r0
  obtain ⟨v2, vs2, d2, ds2, p2, q2, ha2, rfl, rfl, h2, r2⟩ := trodAll_cons r1
  obtain ⟨rfl, rfl, rfl⟩ := trodAll_nil r2
  obtain rfl : args = #[v0, v1, v2] := by cases args; simp_all
  obtain ⟨rfl, rfl⟩ := trodVars_none hV
  obtain ⟨b0, len, cap, rfl⟩ := okWide_slice Tryd.underlying22 (hval 0 22 v0 rfl rfl)
  obtain ⟨c10, c11, c12, c13, y10, y11, y12, y13, m1, rfl, rfl, rfl, hy10, hy11, hy12, hy13⟩ := open_agg4 Tryd.underlying35 (by kernel_rfl) (show Tryd.prog.cellsOf 35 = 4 by kernel_rfl) (hval 1 35 v1 rfl rfl) h1
  obtain ⟨x1_0, e10, rfl, w10⟩ := DataW.trod_int Tryd.underlying3 hy10
  simp at e10
  subst e10
  obtain ⟨x1_1, e11, rfl, w11⟩ := DataW.trod_int Tryd.underlying3 hy11
  simp at e11
  subst e11
  obtain ⟨x1_2, e12, rfl, w12⟩ := DataW.trod_int Tryd.underlying3 hy12
  simp at e12
  subst e12
  obtain ⟨x1_3, e13, rfl, w13⟩ := DataW.trod_int Tryd.underlying3 hy13
  simp at e13
  subst e13
  have reads1 : ∀ (W' : World) (sp : Nat → Bool) (b : Bool), DataW.Trod enc Tryd.prog W' 0 sp b 35 (.agg #[.int .i64 x1_0, .int .i64 x1_1, .int .i64 x1_2, .int .i64 x1_3]) (.agg [.lit (.int .i64 x1_0), .lit (.int .i64 x1_1), .lit (.int .i64 x1_2), .lit (.int .i64 x1_3)]) [] := fun W' sp b =>
    shut_agg4 (y0 := (.lit (.int .i64 x1_0), [])) (y1 := (.lit (.int .i64 x1_1), [])) (y2 := (.lit (.int .i64 x1_2), [])) (y3 := (.lit (.int .i64 x1_3), [])) Tryd.underlying35 (by kernel_rfl) (by kernel_rfl) ⟨1, by simp [DataW.trod, Tryd.underlying3, w10]⟩ ⟨1, by simp [DataW.trod, Tryd.underlying3, w11]⟩ ⟨1, by simp [DataW.trod, Tryd.underlying3, w12]⟩ ⟨1, by simp [DataW.trod, Tryd.underlying3, w13]⟩
  obtain ⟨c20, c21, c22, c23, y20, y21, y22, y23, m2, rfl, rfl, rfl, hy20, hy21, hy22, hy23⟩ := open_agg4 Tryd.underlying35 (by kernel_rfl) (show Tryd.prog.cellsOf 35 = 4 by kernel_rfl) (hval 2 35 v2 rfl rfl) h2
  obtain ⟨x2_0, e20, rfl, w20⟩ := DataW.trod_int Tryd.underlying3 hy20
  simp at e20
  subst e20
  obtain ⟨x2_1, e21, rfl, w21⟩ := DataW.trod_int Tryd.underlying3 hy21
  simp at e21
  subst e21
  obtain ⟨x2_2, e22, rfl, w22⟩ := DataW.trod_int Tryd.underlying3 hy22
  simp at e22
  subst e22
  obtain ⟨x2_3, e23, rfl, w23⟩ := DataW.trod_int Tryd.underlying3 hy23
  simp at e23
  subst e23
  have reads2 : ∀ (W' : World) (sp : Nat → Bool) (b : Bool), DataW.Trod enc Tryd.prog W' 0 sp b 35 (.agg #[.int .i64 x2_0, .int .i64 x2_1, .int .i64 x2_2, .int .i64 x2_3]) (.agg [.lit (.int .i64 x2_0), .lit (.int .i64 x2_1), .lit (.int .i64 x2_2), .lit (.int .i64 x2_3)]) [] := fun W' sp b =>
    shut_agg4 (y0 := (.lit (.int .i64 x2_0), [])) (y1 := (.lit (.int .i64 x2_1), [])) (y2 := (.lit (.int .i64 x2_2), [])) (y3 := (.lit (.int .i64 x2_3), [])) Tryd.underlying35 (by kernel_rfl) (by kernel_rfl) ⟨1, by simp [DataW.trod, Tryd.underlying3, w20]⟩ ⟨1, by simp [DataW.trod, Tryd.underlying3, w21]⟩ ⟨1, by simp [DataW.trod, Tryd.underlying3, w22]⟩ ⟨1, by simp [DataW.trod, Tryd.underlying3, w23]⟩
  clear hA0
  simp only [List.append_nil] at hW'
  have hw : Calls Tryd.prog 5 #[.slice b0 len cap, .agg #[.int .i64 x1_0, .int .i64 x1_1, .int .i64 x1_2, .int .i64 x1_3], .agg #[.int .i64 x2_0, .int .i64 x2_1, .int .i64 x2_2, .int .i64 x2_3]] W (Mdl.LawEnd W) := Mdl.apart_any hK (Mdl.steps_open h0).1 (by have := (Mdl.steps_open h0).2; unfold maxLen at this; omega) ⟨x1_0, x1_1, x1_2, x1_3⟩ ⟨x2_0, x2_1, x2_2, x2_3⟩
  have hlt : ∀ x ∈ p0, x.block < W.heap.size := fun x hx => by simpa using hW'.lt x (by simp [hx])
  refine hw.mono fun e W' ⟨he, hT⟩ => ?_
  subst he
  have hb : Below W.heap.size W W' := hT.below (Nat.le_refl _) (by simp)
  refine ⟨_, rfl, _, _, _, [], p0 ++ ([] ++ ([] ++ [])), [], hW', ?_, ?_, rfl, hb.frame _, fun h => by cases h⟩
  · exact trodAll_cons_mk (shut_bool Tryd.underlying4 _) trodAll_mk0
  · exact (trodAll_cons_mk (Below.trod laidOut (by kernel_rfl) (of_decide_eq_true (by kernel_rfl)) h0 hb hlt) (trodAll_cons_mk (reads1 _ _ _) (trodAll_cons_mk (reads2 _ _ _) trodAll_mk0)))

theorem door_met (os : Os) : laidMetH Tryd.prog Rows.modelApartRow.laid ((World.doorLaid Tryd.prog 97 os).forCall (fun _ _ => 0) ⟨#[], #[.slice none 0 0, .agg #[.int .i64 0, .int .i64 0, .int .i64 0, .int .i64 0], .agg #[.int .i64 0, .int .i64 0, .int .i64 0, .int .i64 0]], []⟩).memory := by
  rw [MakeChecks.laidMetH_plain _ _ _ (by kernel_rfl)]
  exact laidMet_of_run' 8 (by kernel_rfl) (by kernel_rfl)
theorem reads (os : Os) {H : Type} (enc : TypeId × Value → H) : ∃ places, DataW.whole enc Tryd.prog ((World.doorLaid Tryd.prog 97 os).forCall (fun _ _ => 0) ⟨#[], #[.slice none 0 0, .agg #[.int .i64 0, .int .i64 0, .int .i64 0, .int .i64 0], .agg #[.int .i64 0, .int .i64 0, .int .i64 0, .int .i64 0]], []⟩).memory Tryd.f5.params.toList Rows.modelApartSpec.vars false (#[.slice none 0 0, .agg #[.int .i64 0, .int .i64 0, .int .i64 0, .int .i64 0], .agg #[.int .i64 0, .int .i64 0, .int .i64 0, .int .i64 0]] : Array Value).toList 8 = some ([.nil, .agg [.lit (.int .i64 0), .lit (.int .i64 0), .lit (.int .i64 0), .lit (.int .i64 0)], .agg [.lit (.int .i64 0), .lit (.int .i64 0), .lit (.int .i64 0), .lit (.int .i64 0)]], [], places) :=
  ⟨[], by kernel_rfl⟩

set_option maxRecDepth 100000 in
theorem lifted (os : Os) (started : os.Started) (H : Type) (enc : TypeId × Value → H) (F : Stop.Interp) :
    ReturnsInHanded {} Tryd.checked os 5 .any ((OpenSpec.ofChange Rows.modelApartSpec).preRow enc Tryd.prog Tryd.f5 Rows.modelApartRow.domain false Rows.modelApartRow.laid) (((OpenSpec.ofChange Rows.modelApartSpec).at F).post enc Tryd.prog Tryd.f5 false true false false) := by
  obtain ⟨places, hx⟩ := reads os enc
  refine returnsInHanded_of_row (C := Tryd.checked) (s := OpenSpec.ofChange Rows.modelApartSpec) Mdl.own started (by kernel_rfl) Tryd.func5
    (witness_row_atRef (enc := enc) (C := Tryd.checked) false (World.doorLaid Tryd.prog 97 os) #[.slice none 0 0, .agg #[.int .i64 0, .int .i64 0, .int .i64 0, .int .i64 0], .agg #[.int .i64 0, .int .i64 0, .int .i64 0, .int .i64 0]] rfl (by kernel_rfl) (by kernel_rfl) (by kernel_rfl)
      (OpenSpec.preRow_of_cond 8 hx rfl (fun k hk => by cases hk) (by kernel_rfl) (door_met os))) ?_
  intro W base args ds gs before hval hW _ _ _ hL hS _
  exact contract H enc W base args ds gs before hval hW (of_laid hL)

theorem said : Rows.ModelApartSaid :=
  OpenClaim.holds_of_cond 5 Tryd.f5 rfl rfl rfl rfl rfl rfl rfl ⟨rfl, rfl, rfl, rfl, rfl⟩ rfl rfl rfl rfl rfl (by kernel_rfl) Tryd.func5 (by kernel_rfl)
    (of_decide_eq_true (by kernel_rfl)) (by unfold Func.isWrapper; first | (rw [if_pos (by decide +kernel)]; kernel_rfl) | (rw [if_neg (by decide +kernel)]; exact ⟨rfl, rfl⟩))
    (fun os started H enc _ F => by rw [OpenClaim.pre_eq_preRow]; exact lifted os started H enc F)

theorem plain (f : FuncId) (fn : Func) (hf : Tryd.pinned.checked.prog.funcNamed "roundelay/roundelaylaw06.ModelApart" = some f) (hfn : Tryd.pinned.checked.prog.funcs[f]? = some fn) :
    true = Tryd.pinned.checked.prog.looks [] ∧ ∀ (j : Nat) t, fn.params[j]? = some t → Tryd.pinned.checked.prog.wantsStandIn t = false := by
  obtain rfl : f = 5 := Option.some.inj ((show Tryd.prog.funcNamed "roundelay/roundelaylaw06.ModelApart" = some 5 by kernel_rfl).symm.trans hf) |>.symm
  obtain rfl : fn = Tryd.f5 := (Option.some.inj (Tryd.func5.symm.trans hfn)).symm
  refine ⟨by kernel_rfl, fun j t ht => ?_⟩
  rw [Tryd.params5] at ht
  have hm := Array.mem_of_getElem? ht
  simp at hm
  rcases hm with rfl | rfl
  · exact (show Tryd.prog.wantsStandIn 22 = false by kernel_rfl)
  · exact (show Tryd.prog.wantsStandIn 35 = false by kernel_rfl)

theorem proved : Rows.ModelApartCardSaid :=
  Claim7.holds_tied_plain_at .later [] _ _ _ _ said (fun _ h => by cases h) (by kernel_rfl) (fun _ h => by cases h) modelApart_row_tie rfl ⟨rfl, rfl⟩ (by kernel_rfl) rfl plain (by kernel_rfl)
#print axioms proved
end Go.Proofs.YtmodanjblbaedaaDoor.modelApart
