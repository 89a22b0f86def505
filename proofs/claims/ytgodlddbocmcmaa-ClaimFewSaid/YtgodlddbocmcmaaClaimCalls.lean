/- A claim's steps: each of them one access of the arena. -/
import Derived.Test.YtgodlddbocmcmaaClaimMem
import Derived.Laws.MakeOwn
import Derived.Laws.OwnMore
set_option linter.unusedVariables false
set_option linter.unusedSimpArgs false
namespace Go.Proofs.Ytgodlddbocmcmaa
namespace Clm
open Go.RowKit Go.Maps Arn Pac

variable {w W W' : World} {r b n : Nat} {M : Mem} {A : Ar} {C : Cl} {g : Value}
/-- Behind a step of one that claims. -/
def ClAfter (w : World) (b r : Nat) (M : Mem) (A' : Ar) (n : Nat) (C' : Cl) (W w' : World) : Prop :=
  ∃ M', Sin w b M' A' n w' ∧ ClAt w' r b C' ∧ r ∉ M'.foot b ∧ Frm.Turn (r :: M.foot b) W w' ∧ ∀ k, k ∈ M'.foot b → k ∈ M.foot b ∨ W.heap.size ≤ k
/-- .. out of what the arena's call leaves (W1 to W2), and what is put into the claim behind it. -/
theorem after_of {W1 W2 W3 : World} {A' : Ar} {m : Nat} {C' : Cl} (hr : r ∉ M.foot b) (hl : r < W.heap.size) (hw : w.heap.size ≤ r) (h1 : Frm.Turn [] W W1) (h2 : After w b M A' m W1 W2) (h3 : Frm.Turn [r] W2 W3) (hc : ClAt W3 r b C') : ClAfter w b r M A' m C' W W3 := by
  obtain ⟨M', hs, hT, hf⟩ := h2
  have s1 := h1.size
  have hr' : r ∉ M'.foot b := fun hk => by
    rcases hf r hk with e | e
    · exact hr e
    · omega
  refine ⟨M', hs.apart h3 (fun k hk hk' => by simp at hk'; subst hk'; exact hr' hk) (fun k hk => by simp at hk; subst hk; exact hw), hc, hr', ?_, fun k hk => (hf k hk).imp id (fun e => by omega)⟩
  refine (h1.mono (by simp)).trans ((hT.mono (fun k hk => List.mem_cons_of_mem r hk)).trans h3 (fun k hk => .inl (by simp at hk; subst hk; simp))) (fun k hk => .inl hk)
theorem wf_small {x : Int} (h0 : 0 ≤ x) (h1 : x ≤ 100000) : (Lit.int .i64 x).wf = true := by
  simp [Lit.wf, IntKind.min, IntKind.max, IntKind.bits, IntKind.signed]; omega
theorem w64_zero : W64 0 := by unfold W64; omega
theorem body_after {A' : Ar} {m : Nat} {W1 W2 : World} {tok seg slot : Int} {own : Bool} {laid err : Int} (hr : r ∉ M.foot b) (hc : ClBody W r b g tok seg slot own laid err) (h1 : Frm.Turn [] W W1) (h2 : After w b M A' m W1 W2) : ClBody W2 r b g tok seg slot own laid err := by
  obtain ⟨M', hs, hT, hf⟩ := h2
  exact (hc.turn h1 (by simp)).turn hT hr
set_option maxRecDepth 100000 in
set_option maxHeartbeats 1000000 in
theorem find_any (h : Sin w b M A n W) (hn : n ≤ 10000000) (hc : ClBody W r b g C.tok C.seg C.slot C.own C.laid C.err) (hr : r ∉ M.foot b) (hw : w.heap.size ≤ r) (hs : C.slot < 255) :
    Calls Try.prog 28 #[.pointer (some ⟨r, 0, none⟩)] W fun e w' => e = .returned (.tuple #[]) ∧
      ClAfter w b r M (A.read 0 (1 + sgN C.slot)).1 (n + 1) (if (A.read 0 (1 + sgN C.slot)).2.1 = 0 then { C with st := 2 } else { C with seg := (A.read 0 (1 + sgN C.slot)).2.1, st := 5 }) W w' := by
  have hg := (sg_facts hs).1
  have HFX := Lib.hid (fixed_any (hc.turn ((Frm.Turn.refl [] W).drew) (by simp)) hs)
  have HRD := Lib.hid (fun W' (hT : Frm.Turn [] W W') => sin_read (h.step hT) (by omega) 0 (1 + (sgN C.slot : Int)) w64_zero (wf_small (by omega) (by omega)))
  obtain ⟨y, HY⟩ : ∃ y, Hid (y = 1 + (sgN C.slot : Int)) := ⟨_, Lib.hid rfl⟩
  rw [← HY.out] at HFX HRD ⊢
  obtain ⟨val, HV⟩ : ∃ v, Hid (v = (A.read 0 y).2.1) := ⟨_, Lib.hid rfl⟩
  obtain ⟨ee, HE⟩ : ∃ v, Hid (v = (A.read 0 y).2.2) := ⟨_, Lib.hid rfl⟩
  obtain ⟨A', HA⟩ : ∃ v, Hid (v = (A.read 0 y).1) := ⟨_, Lib.hid rfl⟩
  rw [← HV.out, ← HE.out, ← HA.out] at HRD
  rw [← HV.out, ← HA.out]
  have HC := Lib.hid hc
  have HR := Lib.hid hr
  have HW := Lib.hid hw
  obtain ⟨c0, c1, c2, c3, c4, c5, c6, c7⟩ := hc.cells
  clear h hc hr hw hs hg HV HE HA HY
  have hmk := hmf
  go_enter Try.func28, Try.ntmps28
  go_wp2_with fail
  go_cut [2] (fun s2 W2 => s2 = .int .u64 val ∧ ∃ W1, Frm.Turn [] W W1 ∧ After w b M A' (n + 1) W1 W2)
  case first =>
    go_region_with (first
      | (go_at_call 37; (with_reducible refine (HFX.out).mono ?_); rintro e w1 ⟨rfl, hT⟩; have HT1 := Lib.hid (((Frm.Turn.refl [] W).drew).trans hT (by simp)); have d1 := (HC.out.turn HT1.out (by simp)).cells.2.1; clear hT)
      | (go_at_call 36; (with_reducible refine (HRD.out _ HT1.out).mono ?_); rintro e w2 ⟨rfl, ha⟩; have HA2 := Lib.hid ha; clear ha))
    all_goals go_wp2_with fail
    all_goals go_meet
    all_goals exact ⟨rfl, _, HT1.out, HA2.out⟩
  case rest =>
    obtain ⟨rfl, W1, hT1, ha⟩ := hcut
    have hb := body_after HR.out HC.out hT1 ha
    have HT1 := Lib.hid hT1
    have HAF := Lib.hid ha
    have HB := Lib.hid hb
    obtain ⟨k0, k1, k2, k3, k4, k5, k6, k7⟩ := hb.cells
    by_cases hv : val = 0
    · have HV := Lib.hid hv
      have hv' : (val == 0) = true := by simpa using hv
      have HE := Lib.hid (to_any r (nx r 2) g wc (nx_fn _ _) k0 (hb.thaw 0))
      have e5 : nx r 2 = .func (.func 38) #[.pointer (some ⟨r, 0, none⟩)] #[] := rfl
      have H0 := Lib.hid (hb.set0 (nx r 2))
      rw [e5] at HE
      clear hb ha hT1 e5 hv
      go_wp2_with (go_at_call 27; (with_reducible refine (HE.out).mono ?_); rintro e w1 ⟨rfl, rfl⟩)
      refine bodyPost_ret (results_none rfl _ _ _) rfl ⟨rfl, ?_⟩
      exact after_of HR.out HC.out.lt HW.out HT1.out HAF.out (turn_set _ _ _ _) H0.out
    · have HV := Lib.hid hv
      have hv' : (val == 0) = false := by simpa using hv
      have HE := Lib.hid (enter_any hb val)
      clear hb ha hT1 hv
      go_wp2_with (go_at_call 39; (with_reducible refine (HE.out).mono ?_); rintro e w1 ⟨rfl, hb, hT⟩)
      go_end0
      exact ⟨rfl, after_of HR.out HC.out.lt HW.out HT1.out HAF.out hT hb⟩
set_option maxRecDepth 100000 in
set_option maxHeartbeats 1000000 in
theorem hang_any (h : Sin w b M A n W) (hn : n ≤ 10000000) (hc : ClBody W r b g C.tok C.seg C.slot C.own C.laid C.err) (hr : r ∉ M.foot b) (hw : w.heap.size ≤ r) (hs : C.slot < 255) (hl : W64 C.laid) :
    Calls Try.prog 49 #[.pointer (some ⟨r, 0, none⟩)] W fun e w' => e = .returned (.tuple #[]) ∧
      ClAfter w b r M (A.swap 0 (1 + sgN C.slot) 0 C.laid).1 (n + 1) (if (A.swap 0 (1 + sgN C.slot) 0 C.laid).2.1 = true then { C with seg := C.laid, laid := 0, st := 5 } else { C with st := 4 }) W w' := by
  have hg := (sg_facts hs).1
  have HFX := Lib.hid (fixed_any (hc.turn ((Frm.Turn.refl [] W).drew) (by simp)) hs)
  have HRD := Lib.hid (fun W' (hT : Frm.Turn [] W W') => sin_swap (h.step hT) (by omega) 0 (1 + (sgN C.slot : Int)) 0 C.laid w64_zero (wf_small (by omega) (by omega)) hl)
  obtain ⟨y, HY⟩ : ∃ y, Hid (y = 1 + (sgN C.slot : Int)) := ⟨_, Lib.hid rfl⟩
  rw [← HY.out] at HFX HRD ⊢
  obtain ⟨val, HV⟩ : ∃ v, Hid (v = (A.swap 0 y 0 C.laid).2.1) := ⟨_, Lib.hid rfl⟩
  obtain ⟨ee, HE⟩ : ∃ v, Hid (v = (A.swap 0 y 0 C.laid).2.2) := ⟨_, Lib.hid rfl⟩
  obtain ⟨A', HA⟩ : ∃ v, Hid (v = (A.swap 0 y 0 C.laid).1) := ⟨_, Lib.hid rfl⟩
  rw [← HV.out, ← HE.out, ← HA.out] at HRD
  rw [← HV.out, ← HA.out]
  have HC := Lib.hid hc
  have HR := Lib.hid hr
  have HW := Lib.hid hw
  obtain ⟨c0, c1, c2, c3, c4, c5, c6, c7⟩ := hc.cells
  clear h hc hr hw hs hg HV HE HA HY hl
  have hmk := hmf
  go_enter Try.func49, Try.ntmps49
  go_wp2_with fail
  go_cut [2] (fun s2 W2 => s2 = .bool val ∧ ∃ W1, Frm.Turn [] W W1 ∧ After w b M A' (n + 1) W1 W2)
  case first =>
    go_region_with (first
      | (go_at_call 37; (with_reducible refine (HFX.out).mono ?_); rintro e w1 ⟨rfl, hT⟩; have HT1 := Lib.hid (((Frm.Turn.refl [] W).drew).trans hT (by simp)); have d1 := (HC.out.turn HT1.out (by simp)).cells.2.1; have d6 := (HC.out.turn HT1.out (by simp)).cells.2.2.2.2.2.2.1; clear hT)
      | (go_at_call 41; (with_reducible refine (HRD.out _ HT1.out).mono ?_); rintro e w2 ⟨rfl, ha⟩; have HA2 := Lib.hid ha; clear ha))
    all_goals go_wp2_with fail
    all_goals go_meet
    all_goals exact ⟨rfl, _, HT1.out, HA2.out⟩
  case rest =>
    obtain ⟨rfl, W1, hT1, ha⟩ := hcut
    have hb := body_after HR.out HC.out hT1 ha
    have HT1 := Lib.hid hT1
    have HAF := Lib.hid ha
    have HB := Lib.hid hb
    obtain ⟨k0, k1, k2, k3, k4, k5, k6, k7⟩ := hb.cells
    have g6 := hb.thaw 6
    cases val with
    | false =>
      have HE := Lib.hid (to_any r (nx r 4) g wc (nx_fn _ _) k0 (hb.thaw 0))
      have e5 : nx r 4 = .func (.func 55) #[.pointer (some ⟨r, 0, none⟩)] #[] := rfl
      have H0 := Lib.hid (hb.set0 (nx r 4))
      rw [e5] at HE
      clear hb ha hT1 e5
      go_wp2_with (go_at_call 27; (with_reducible refine (HE.out).mono ?_); rintro e w1 ⟨rfl, rfl⟩)
      refine bodyPost_ret (results_none rfl _ _ _) rfl ⟨rfl, ?_⟩
      exact after_of HR.out HC.out.lt HW.out HT1.out HAF.out (turn_set _ _ _ _) H0.out
    | true =>
      have HE := Lib.hid (enter_any (hb.set6 0) C.laid)
      clear hb ha hT1
      go_wp2_with (go_at_call 39; (with_reducible refine (HE.out).mono ?_); rintro e w1 ⟨rfl, hb, hT⟩)
      go_end0
      exact ⟨rfl, after_of HR.out HC.out.lt HW.out HT1.out HAF.out ((turn_set _ _ _ _).trans hT (fun k hk => .inl hk)) hb⟩
set_option maxRecDepth 100000 in
set_option maxHeartbeats 1000000 in
theorem free_any (h : Sin w b M A n W) (hn : n ≤ 10000000) (hc : ClBody W r b g C.tok C.seg C.slot C.own C.laid C.err) (hr : r ∉ M.foot b) (hw : w.heap.size ≤ r) (hl : W64 C.laid) :
    Calls Try.prog 55 #[.pointer (some ⟨r, 0, none⟩)] W fun e w' => e = .returned (.tuple #[]) ∧
      ClAfter w b r M (A.free C.laid).1 (n + 1) { C with laid := 0, st := 1 } W w' := by
  have HRD := Lib.hid (fun W' (hT : Frm.Turn [] W W') => sin_free (h.step hT) (by omega) C.laid hl)
  obtain ⟨ee, HE⟩ : ∃ v, Hid (v = (A.free C.laid).2) := ⟨_, Lib.hid rfl⟩
  obtain ⟨A', HA⟩ : ∃ v, Hid (v = (A.free C.laid).1) := ⟨_, Lib.hid rfl⟩
  rw [← HE.out, ← HA.out] at HRD
  rw [← HA.out]
  have HC := Lib.hid hc
  have HR := Lib.hid hr
  have HW := Lib.hid hw
  obtain ⟨c0, c1, c2, c3, c4, c5, c6, c7⟩ := hc.cells
  have HT1 := Lib.hid ((Frm.Turn.refl [] W).drew)
  clear h hc hr hw HE HA hl
  have hmk := hmf
  go_enter Try.func55, Try.ntmps55
  go_wp2_with fail
  go_cut [] (fun W2 => ∃ W1, Frm.Turn [] W W1 ∧ After w b M A' (n + 1) W1 W2)
  case first =>
    go_region_with (first
      | (go_at_call 57; (with_reducible refine (HRD.out _ HT1.out).mono ?_); rintro e w2 ⟨rfl, ha⟩; have HA2 := Lib.hid ha; clear ha))
    all_goals go_wp2_with fail
    all_goals go_meet
    all_goals exact ⟨_, HT1.out, HA2.out⟩
  case rest =>
    obtain ⟨W1, hT1, ha⟩ := hcut
    have hb := body_after HR.out HC.out hT1 ha
    have HT1 := Lib.hid hT1
    have HAF := Lib.hid ha
    have HB := Lib.hid hb
    obtain ⟨k0, k1, k2, k3, k4, k5, k6, k7⟩ := hb.cells
    have g6 := hb.thaw 6
    have h6 := hb.set6 0
    have HE := Lib.hid (to_any r (nx r 1) g (wc.setCell ⟨r, 6, none⟩ (.int .u64 0)) (nx_fn _ _) h6.cells.1 (h6.thaw 0))
    have e5 : nx r 1 = .func (.func 28) #[.pointer (some ⟨r, 0, none⟩)] #[] := rfl
    have H0 := Lib.hid (h6.set0 (nx r 1))
    rw [e5] at HE
    clear hb ha hT1 e5 h6
    go_wp2_with (go_at_call 27; (with_reducible refine (HE.out).mono ?_); rintro e w1 ⟨rfl, rfl⟩)
    go_end0
    exact ⟨rfl, after_of HR.out HC.out.lt HW.out HT1.out HAF.out (turn_set2 _ _ _ _ _ _) H0.out⟩
end Clm
end Go.Proofs.Ytgodlddbocmcmaa
