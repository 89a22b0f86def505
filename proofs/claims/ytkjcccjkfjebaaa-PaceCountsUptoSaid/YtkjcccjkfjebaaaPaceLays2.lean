/- The machine that lays: a step. -/
import Derived.Test.YtkjcccjkfjebaaaPaceLays
set_option linter.unusedVariables false
set_option linter.unusedSimpArgs false
namespace Go.Proofs.Ytkjcccjkfjebaaa
namespace Pac
open Go.RowKit Go.Maps Arn

/-- What is left, laid, told behind a step. -/
def lyL (A : Ar) (ws : List Int) (R : List RowV) : List RowV := if (A.lay ws).2.2 = 0 then R else []
def lyH (A : Ar) (ws : List Int) (H : List Int) : List Int := if (A.lay ws).2.2 = 0 then H ++ [(A.lay ws).2.1] else H
set_option maxRecDepth 100000 in
set_option maxHeartbeats 2000000 in
theorem llay_any {w wd : World} {r b n : Nat} {M : Mem} {A : Ar} {v : Value} {ws : List Int} {R : List RowV} {H : List Int} {e0 : Int} {lv hv : Value} (h : Sin w b M A n wd) (hn : n ≤ 10000000) (hr : LyAt wd r b ((v, ws) :: R) H e0 lv hv)
    (hd : ∀ k, k ∈ lyFoot r lv hv ((v, ws) :: R) → k ∉ M.foot b ∧ w.heap.size ≤ k) (hrb : ∀ k, k ∈ rowBlocks ((v, ws) :: R) → k < wd.heap.size) (hH : H.length ≤ 60000) (hL : R.length ≤ 60000) (hw : ∀ x, x ∈ ws → W64 x) :
    Calls Try.prog 100 #[.pointer (some ⟨r, 0, none⟩)] wd fun e w' => e = .returned (.tuple #[]) ∧ LyAfter w r b M lv hv ((v, ws) :: R) (A.lay ws).1 (n + 1) (lyL A ws R) (lyH A ws H) (A.lay ws).2.2 wd w' := by
  have HRD := Lib.hid (sin_lay (h.step ((Frm.Turn.refl [] wd).drew)) (by omega) ((hr.left.2 (v, ws) (by simp)).turn ((Frm.Turn.refl [] wd).drew) (by simp)) (fun _ k hk => (hd k (mem_lfoot.2 (.inr (.inr (.inr (mem_rowBlocks.2 ⟨(v, ws), by simp, hk⟩)))))).1) hw)
  unfold lyL lyH
  obtain ⟨g, o, c, rfl, hlc, hcm, hcells⟩ : ∃ g o c, lv = .slice (some ⟨g, o, none⟩) (R.length + 1) c ∧ R.length + 1 ≤ c ∧ c ≤ maxLen ∧ ∀ j x, ((v, ws) :: R)[j]? = some x → wd.cell? ⟨g, o + j, none⟩ = some x.1 := by
    rcases hr.left.1 with ⟨_, h2⟩ | ⟨g, o, c, h1, h2⟩
    · cases h2
    · exact ⟨g, o, c, h1, h2⟩
  obtain ⟨q, HQ⟩ : ∃ q, Hid (q = R.length) := ⟨_, Lib.hid rfl⟩
  obtain ⟨val, HV⟩ : ∃ v, Hid (v = (A.lay ws).2.1) := ⟨_, Lib.hid rfl⟩
  obtain ⟨ff, HE⟩ : ∃ v, Hid (v = (A.lay ws).2.2) := ⟨_, Lib.hid rfl⟩
  obtain ⟨A', HA⟩ : ∃ v, Hid (v = (A.lay ws).1) := ⟨_, Lib.hid rfl⟩
  rw [← HV.out, ← HE.out, ← HA.out] at HRD
  rw [← HV.out, ← HE.out, ← HA.out]
  rw [← HQ.out] at hlc hr hd hL ⊢
  have HH := Lib.hid h
  have HR := Lib.hid hr
  have HD := Lib.hid hd
  have HRB := Lib.hid hrb
  have HDm : Hid (∀ k, k ∈ lyFoot r (.slice (some ⟨g, o, none⟩) (q + 1) c) hv ((v, ws) :: R) → k ∉ M.foot b) := Lib.hid fun k hk => (HD.out k hk).1
  obtain ⟨x0, hx0⟩ : ∃ x, LyBody wd r b x (.slice (some ⟨g, o, none⟩) (q + 1) c) hv e0 := ⟨_, hr.body⟩
  have HX := Lib.hid hx0
  have HRM : Hid (r ∉ M.foot b) := Lib.hid (HDm.out r (mem_lfoot.2 (.inl rfl)))
  obtain ⟨k0, k1, k2, k3, k4⟩ := hx0.cells
  have a0 : wd.cell? ⟨g, o, none⟩ = some v := hcells 0 _ rfl
  have q1 : (0 : Int) < (q : Int) + 1 := by omega
  clear h hr hd hcells hrb hx0
  go_enter Try.func100, Try.ntmps100
  go_upto_region 1 with fail
  go_cut [2] (fun s2 W1 => s2 = .int .u64 val ∧ ∃ w1, After w b M A' (n + 1) wd.drew w1 ∧ W1 = w1.setCell ⟨r, 4, none⟩ (.int .i64 ff))
  case first =>
    go_region_with ((go_at_call 12; (with_reducible refine (HRD.out).mono ?_); rintro e w1 ⟨rfl, ha⟩; have hb1 := (HX.out.turn (Frm.Turn.refl [] wd).drew (by simp)).turn (ha.elim fun _ x => x.2.1) HRM.out; obtain ⟨m0, m1, m2, m3, m4⟩ := hb1.cells; have f4 := hb1.thaw 4; have HA1 := Lib.hid ha; clear ha hb1))
    all_goals go_wp2_with fail
    all_goals go_meet
    all_goals exact ⟨rfl, _, HA1.out, rfl⟩
  case rest =>
    obtain ⟨rfl, w1, ⟨M', hs, hT, hf⟩, rfl⟩ := hcut
    have HT0 := Lib.hid (show Frm.Turn (M.foot b) wd w1 from ((Frm.Turn.refl _ wd).drew).trans hT (fun k hk => .inl hk))
    have HS := Lib.hid hs
    have HF := Lib.hid (show ∀ k, k ∈ M'.foot b → k ∈ M.foot b ∨ wd.heap.size ≤ k from hf)
    have hr1 := HR.out.turn HT0.out HDm.out
    obtain ⟨x1, hx1⟩ : ∃ x, LyBody w1 r b x (.slice (some ⟨g, o, none⟩) (q + 1) c) hv e0 := ⟨_, hr1.body⟩
    have HX1 := Lib.hid hx1
    have HW0 := Lib.hid hr1.handles
    have HWW := Lib.hid hr1.hh
    obtain ⟨c0, c1, c2, c3, c4⟩ := hx1.cells
    have f0 := hx1.thaw 0; have f2 := hx1.thaw 2; have f3 := hx1.thaw 3; have f4 := hx1.thaw 4
    clear hs hT hf hr1 hx1 k0 k1 k2 k3 k4 a0 HRD
    by_cases hff : ff = 0
    · subst hff
      obtain ⟨o2, HO2⟩ : ∃ o2, Hid (o2 = if c = 1 then o else o + 1) := ⟨_, Lib.hid rfl⟩
      have htail : ∀ W2, (Instr.slice 84 (.slice (some ⟨g, o, none⟩) (q + 1) c) (some (.int .i64 1)) none none).run Try.prog W2 = .ok (.slice (some ⟨g, o2, none⟩) q (c - 1)) W2 := by rw [HO2.out]; exact run_tail_r g o q c hlc (by omega)
      obtain ⟨i0, hi0, hz0, hz1, hz2⟩ := info_parts info_u64
      have HNW : Hid (H.length ≤ 60000) := Lib.hid hH
      obtain ⟨ao, wl, wcap, hwv⟩ : ∃ ao wl wcap, hv = .slice ao wl wcap := by
        rcases HW0.out.2 with ⟨e, _⟩ | ⟨g', cap', cur', e, _⟩ <;> exact ⟨_, _, _, e⟩
      clear hwv
      go_wp2_with (at_builtin; refine wpList_append_own_at _ rfl (.tmp 44) (.tmp 46) 42 rfl 0 29 i0 (.int .u64 0) 1 8 under_u64s hi0 hz0 hz1 hz2 rfl (by decide) hv H.length (u64s H) rfl (row_turn HW0.out (((((Frm.Turn.refl _ w1).setCell (p := ⟨r, 4, none⟩) (.inl (by simp)) _).setCell (p := ⟨r, 2, none⟩) (.inl (by simp)) _).alloc _)) (F := [r]) (fun k hk e => by simp at e; subst e; exact HWW.out hk)) ⟨w1.heap.size, 0, none⟩ 1 1 [.int .u64 val] rfl rfl (cell_one_new _ _ _ _ (by simp)) (by simp [Value.oneCell']) (by have := HNW.out; unfold maxLen; omega) (by have := HNW.out; omega) (Nat.zero_le _) ?_; intro v1 w3 hown3 hg3 _ hl3; obtain ⟨ao1, c1', rfl⟩ := Frm.row_form hown3; have hb3 := ((((HX1.out.set.2.2.2 0).set.2.1 _).turn ((Frm.Turn.refl [] _).alloc _) (by simp)).turn (Frm.Turn.of_grown hg3) (by simp; exact fun e => HWW.out e)); obtain ⟨d0, d1, d2, d3, d4⟩ := hb3.cells; have e0 := hb3.thaw 0; have e3 := hb3.thaw 3; have HO3 := Lib.hid hown3; have HG3 := Lib.hid hg3; have HL3 := Lib.hid hl3; have HB3 := Lib.hid hb3; clear hown3 hg3 hl3 hb3)
      have HB4 := Lib.hid (HB3.out.set.2.2.1 (.slice ao1 (H.length + 1) c1'))
      obtain ⟨w4, HW4⟩ : ∃ w4, Hid (w4 = w3.setCell ⟨r, 3, none⟩ (.slice ao1 (H.length + 1) c1')) := ⟨_, Lib.hid rfl⟩
      rw [← HW4.out] at HB4 ⊢
      clear d0 d1 d2 d3 d4 e0 e3 c0 c1 c2 c3 c4 f0 f2 f3 f4
      obtain ⟨d0, d1, d2, d3, d4⟩ := HB4.out.cells
      have HWH := Lib.hid (while_any r q x1 (lyNext r) w4.drew (lyNext_fn r) (by omega) d0 (HB4.out.thaw 0))
      have hmk := hmf
      unfold lyNext at HWH
      go_region_with ((go_at_call 88; (with_reducible refine (HWH.out).mono ?_); rintro e w5 ⟨rfl, rfl⟩))
      all_goals go_wp2_with fail
      all_goals go_end0
      all_goals refine ⟨rfl, ?_⟩
      all_goals rw [HW4.out]
      all_goals have hl3 := HL3.out
      all_goals rw [HO2.out] at HG3
      all_goals exact ly_done HQ.out hlc hcm HH.out HS.out HT0.out HF.out HR.out HD.out HRB.out HG3.out HO3.out (by simpa using hl3)
    · have hff1 : (ff == 0) = false := by simpa using hff
      have hff2 : (ff != 0) = true := by simpa using hff
      have HFF := Lib.hid hff
      clear hff
      have HEND := Lib.hid (end_any r x1 ((w1.setCell ⟨r, 4, none⟩ (.int .i64 ff)).setCell ⟨r, 2, none⟩ (.slice none 0 0)) ((HX1.out.set.2.2.2 ff).set.2.1 _).cells.1 (((HX1.out.set.2.2.2 ff).set.2.1 _).thaw 0))
      go_wp2_with (go_at_call 86; (with_reducible refine (HEND.out).mono ?_); rintro e w5 ⟨rfl, rfl⟩)
      refine bodyPost_ret (results_none rfl _ _ _) rfl ?_
      refine ⟨rfl, ?_⟩
      exact ly_stop HH.out HS.out HT0.out HF.out HR.out HD.out
theorem enters_lay : Enters Try.prog 100 := enters_of Try.func100 (by kernel_rfl) rfl
theorem lstep_more {w wd : World} {r b n : Nat} {M : Mem} {A : Ar} {v : Value} {ws : List Int} {R : List RowV} {H : List Int} {e0 : Int} {lv hv : Value} (h : Sin w b M A n wd) (hn : n ≤ 10000000) (hr : LyAt wd r b ((v, ws) :: R) H e0 lv hv)
    (hd : ∀ k, k ∈ lyFoot r lv hv ((v, ws) :: R) → k ∉ M.foot b ∧ w.heap.size ≤ k) (hrb : ∀ k, k ∈ rowBlocks ((v, ws) :: R) → k < wd.heap.size) (hH : H.length ≤ 60000) (hL : R.length ≤ 60000) (hw : ∀ x, x ∈ ws → W64 x) :
    Calls Try.prog 77 #[.pointer (some ⟨r, 0, none⟩)] wd fun e w' => e = .returned (.tuple #[]) ∧ LyAfter w r b M lv hv ((v, ws) :: R) (A.lay ws).1 (n + 1) (lyL A ws R) (lyH A ws H) (A.lay ws).2.2 wd w' := by
  have h1 := call_fn #[.pointer (some ⟨r, 0, none⟩)] #[] wd (R := fun w' => LyAfter w r b M lv hv ((v, ws) :: R) (A.lay ws).1 (n + 1) (lyL A ws R) (lyH A ws H) (A.lay ws).2.2 wd w') enters_lay (llay_any h hn hr hd hrb hH hL hw)
  have hc : wd.cell? ⟨r, 0, none⟩ = some (lyNext r) := by
    rw [hr.body.cells.1]; rfl
  have h2 := gstep_any r (lyNext r) wd hc h1
  have H := Lib.hid h2
  clear h1 h2 hc h hr hd hrb hw
  go_enter Try.func77, Try.ntmps77
  go_wp2_with (go_at_call 39; (with_reducible refine (H.out).mono ?_); rintro e w1 ⟨rfl, hR⟩)
  go_end0
  exact ⟨rfl, hR⟩
theorem lstep_none {w : World} {r b : Nat} {H : List Int} {e0 : Int} {lv hv : Value} (hr : LyAt w r b [] H e0 lv hv) :
    Calls Try.prog 77 #[.pointer (some ⟨r, 0, none⟩)] w fun e w' => e = .returned (.tuple #[]) ∧ w' = w := by
  have hc : w.cell? ⟨r, 0, none⟩ = some .nilFunc := hr.body.cells.1
  have H := Lib.hid (gstep_any r .nilFunc w hc (call_none w))
  clear hc hr
  go_enter Try.func77, Try.ntmps77
  go_wp2_with (go_at_call 39; (with_reducible refine (H.out).mono ?_); rintro e w1 ⟨rfl, hR⟩)
  go_end0
  subst hR
  exact ⟨rfl, rfl⟩
theorem ldone_any {w : World} {r b : Nat} {R : List RowV} {H : List Int} {e0 : Int} {lv hv : Value} (hr : LyAt w r b R H e0 lv hv) :
    Calls Try.prog 78 #[.pointer (some ⟨r, 0, none⟩)] w fun e w' => e = .returned (.bool (decide (R.length = 0))) ∧ w = w' := by
  have h1 := gdone_any r _ w (nextOf_fn R.length _ (lyNext_fn r)) hr.body.cells.1
  rw [idle_next _ (lyNext r) ⟨_, _, _, rfl⟩] at h1
  have H := Lib.hid h1
  clear h1 hr
  generalize decide (R.length = 0) = z at H ⊢
  go_enter Try.func78, Try.ntmps78
  go_wp2_with (go_at_call 40; (with_reducible refine (H.out).mono ?_); rintro e w1 ⟨rfl, rfl⟩)
  go_ret
  exact ⟨rfl, rfl⟩
theorem lhandles_any {w : World} {r b : Nat} {R : List RowV} {H : List Int} {e0 : Int} {lv hv : Value} (hr : LyAt w r b R H e0 lv hv) (hH : H.length ≤ 65536) :
    Calls Try.prog 51 #[.pointer (some ⟨r, 0, none⟩)] w (HCloneOf w H) := by
  obtain ⟨_, _, _, c3, _⟩ := hr.body.cells
  have HC := Lib.hid (hclone_any hv H w (words_of_row hr.handles) hH)
  clear hr
  go_enter Try.func51, Try.ntmps51
  go_wp2_with (go_at_call 60; (with_reducible refine (HC.out).mono ?_); rintro e w1 ⟨ao, c, rfl, h⟩; have H1 := Lib.hid h; clear h)
  go_ret
  exact ⟨ao, c, rfl, H1.out⟩
theorem lerr_any {w : World} {r b : Nat} {R : List RowV} {H : List Int} {e0 : Int} {lv hv : Value} (hr : LyAt w r b R H e0 lv hv) :
    Calls Try.prog 50 #[.pointer (some ⟨r, 0, none⟩)] w fun e w' => e = .returned (.int .i64 e0) ∧ w = w' := by
  obtain ⟨_, _, _, _, c4⟩ := hr.body.cells
  clear hr
  go_enter Try.func50, Try.ntmps50
  go_wp2
  go_ret
  exact ⟨rfl, rfl⟩
end Pac
end Go.Proofs.Ytkjcccjkfjebaaa
