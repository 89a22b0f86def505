/- Segments among other blocks: their rows are known. -/
/- A collect's steps: each of them one read. -/
/- A collect made, stepped, asked. -/
import Derived.Test.YtpajafecodkndaaGreatCollPlain
import Derived.Test.YtpajafecodkndaaGreatCollMem
import Derived.Test.YtpajafecodkndaaGreatCountSegsWalk
import Derived.BigRegion
set_option linter.unusedVariables false
set_option linter.unusedSimpArgs false
namespace Go.Proofs.YtpajafecodkndaaGreat
namespace ColB
open Arn Clm Cnt Col
structure SegB (A : Ar) (n : Nat) (f : Nat → Nat → Int) : Prop where
  ok : A.Ok
  row : ∀ g, g < n → A.row (hS g) = some (rowF (7 * 2 ^ g) (f g))
  fx : ∀ g, g < 8 → A.fixed.getD (1 + g) 0 = if g < n then hS g else 0
variable {A : Ar} {n k : Nat} {f : Nat → Nat → Int} {C : Co}
theorem segB_of (S : SegA A n f) : SegB A n f := ⟨S.ok, fun g hg => S.row hg, S.fx⟩
theorem SegB.at_ (S : SegB A n f) {g j : Nat} (hg : g < n) (hj : j < 7 * 2 ^ g) : A.err (hS g) j = 0 ∧ A.get (hS g) j = f g j := by
  refine ⟨?_, ?_⟩
  · unfold Ar.err; rw [S.row g hg]; dsimp only; rw [rowF_len, if_pos ⟨by omega, by omega⟩]
  · unfold Ar.get; rw [S.row g hg]; exact rowF_get _ hj
theorem SegB.fixed (S : SegB A n f) {g : Nat} (hg : g < 8) : A.err 0 (1 + g) = 0 ∧ A.get 0 (1 + g) = if g < n then hS g else 0 := by
  have h9 := S.ok.nine
  have e1 : A.row 0 = some A.fixed := by unfold Ar.row; rw [if_pos rfl]
  refine ⟨?_, ?_⟩
  · unfold Ar.err; rw [e1]; dsimp only; rw [if_pos ⟨by omega, by rw [h9]; omega⟩]
  · unfold Ar.get
    rw [e1]
    have : ((1 : Int) + (g : Int)).toNat = 1 + g := by omega
    rw [this]
    exact S.fx g hg
theorem SegB.tally (S : SegB A n f) (t : Tal) : SegB { A with t := t } n f := ⟨S.ok.tally A.faults t, S.row, S.fx⟩
theorem acc_segB (hn : n ≤ 4) (F : C.Fit n) (S : SegB A n f) : SegB (C.acc A) n f := by
  have hp := pow16 (show C.g ≤ 4 by have := F.gn; omega)
  unfold Co.acc
  by_cases h0 : C.ph = 0
  · rw [if_pos h0]
    obtain ⟨e1, e2⟩ := S.fixed (show C.g < 8 by have := F.gn; omega)
    unfold Ar.read
    rw [if_pos e1]
    exact S.tally _
  · by_cases h1 : C.ph = 1
    · obtain ⟨l1, l2, l3, l4⟩ := F.look h1
      rw [if_neg h0, if_pos h1]
      obtain ⟨e1, e2⟩ := S.at_ (j := 5 * 2 ^ C.g + C.node) l1 (by omega)
      unfold Ar.read
      rw [if_pos e1]
      exact S.tally _
    · rw [if_neg h0, if_neg h1]
      exact S
end ColB
end Go.Proofs.YtpajafecodkndaaGreat

set_option linter.unusedVariables false
set_option linter.unusedSimpArgs false
namespace Go.Proofs.YtpajafecodkndaaGreat
namespace ColB
open Go.RowKit Go.Maps Arn Pac Clm Cnt Col

variable {w W W' : World} {r b n k : Nat} {K : List Nat} {A : Ar} {C : Co} {v : Value} {f : Nat → Nat → Int}
/-- A collect beside an arena; both beside the other blocks of K. -/
structure CoK (w : World) (b : Nat) (K : List Nat) (r : Nat) (v : Value) (C : Co) (A : Ar) (k : Nat) (W : World) : Prop where
  kin : Kin w b K A k W
  at_ : CoAt W w.heap.size r b C v
  rK : r ∈ K
  low : w.heap.size ≤ r
  vK : ∀ q, v.ownBlock = some q → q ∈ K
/-- Of K nothing has turned but the collect. -/
def CoFr (w : World) (K : List Nat) (r : Nat) (v : Value) (W W' : World) : Prop := ∃ F, Frm.Turn F W W' ∧ (∀ q, q ∈ K → q ≠ r → v.ownBlock ≠ some q → q ∉ F) ∧ ∀ q, q ∈ F → w.heap.size ≤ q
theorem CoFr.refl : CoFr w K r v W W := ⟨[], Frm.Turn.refl _ _, by simp, by simp⟩
theorem CoFr.heap {q : Nat} {o : Obj} (h : CoFr w K r v W W') (hq : q ∈ K) (h1 : q ≠ r) (h2 : v.ownBlock ≠ some q) (ho : W.heap[q]? = some o) : W'.heap[q]? = some o := by
  obtain ⟨F, hT, k1, _⟩ := h
  exact hT.keep ho (k1 q hq h1 h2)
/-- Behind a read, and what is put into the collect behind it. -/
structure MidK (w : World) (b : Nat) (K : List Nat) (r : Nat) (v : Value) (C : Co) (A' : Ar) (k : Nat) (W W' : World) : Prop where
  kin : Kin w b K A' k W'
  at_ : CoMid W' w.heap.size r b C v
  fr : CoFr w K r v W W'
theorem mid_of (h : CoK w b K r v C A k W) {A' : Ar} {k' : Nat} {W1 W2 : World} (h1 : Frm.Turn [] W W1) (h2 : Kin w b K A' k' W2) (h3 : But w K none W1 W2) : MidK w b K r v C A' k' W W2 := by
  obtain ⟨F, hT, f1, f2⟩ := h3
  refine ⟨h2, (h.at_.mid.turn h1 (by simp) (by simp)).turn hT (f1 r h.rK (by simp)) (fun q hq => f1 q (h.vK q hq) (by simp)), F, (h1.mono (by simp)).trans hT (fun q hq => .inl hq), fun q hq _ _ => f1 q hq (by simp), f2⟩
theorem CoFr.more {W2 : World} (h : CoFr w K r v W W') (ht : Frm.Turn [r] W' W2) (hr : w.heap.size ≤ r) : CoFr w K r v W W2 := by
  obtain ⟨F, hT, f1, f2⟩ := h
  refine ⟨r :: F, (hT.mono (fun q hq => List.mem_cons_of_mem _ hq)).trans ht (fun q hq => .inl (by simp at hq; subst hq; simp)), fun q hq h1 h2 hm => ?_, fun q hq => ?_⟩
  · rcases List.mem_cons.1 hm with e | hm
    · exact h1 e
    · exact f1 q hq h1 h2 hm
  · rcases List.mem_cons.1 hq with rfl | hq
    · exact hr
    · exact f2 q hq
theorem mid_end (h : CoK w b K r v C A k W) {A' : Ar} {k' : Nat} {C' : Co} {W2 W3 : World} (hm : MidK w b K r v C A' k' W W2) (ht : Frm.Turn [r] W2 W3) (hc : CoAt W3 w.heap.size r b C' v) : CoK w b K r v C' A' k' W3 ∧ CoFr w K r v W W3 :=
  ⟨⟨hm.kin.poke ht (fun q hq => by simp at hq; subst hq; exact ⟨h.rK, h.low⟩), hc, h.rK, h.low, h.vK⟩, hm.fr.more ht h.low⟩
set_option maxRecDepth 100000 in
set_option maxHeartbeats 1000000 in
theorem findO_any (h : CoK w b K r v C A k W) (hk : k ≤ 1000000) (hn : n ≤ 4) (F : C.Fit n) (S : SegB A n f) (h0 : C.ph = 0) :
    Calls Tryz.prog 145 #[.pointer (some ⟨r, 0, none⟩)] W fun e w' => e = .returned (.tuple #[]) ∧ CoK w b K r v (C.step n f) (C.acc A) (k + 1) w' ∧ CoFr w K r v W w' := by
  have hgn := F.gn
  have hm := F.find h0
  obtain ⟨e1, e2⟩ := S.fixed (show C.g < 8 by omega)
  have er : (A.read 0 (1 + C.g)).2 = (if C.g < n then hS C.g else 0, 0) := by unfold Ar.read; rw [if_pos e1, e2]
  have ea : C.acc A = (A.read 0 (1 + C.g)).1 := by unfold Co.acc; rw [if_pos h0]
  have HRD := Lib.hid (fun W' (hT : Frm.Turn [] W W') => (kin_read (h.kin.step hT) (by omega) 0 (1 + (C.g : Int)) w64_zero (wf_small (by omega) (by omega))).mono (fun e w' ⟨he, h1, h2⟩ => (⟨he, mid_of h hT h1 h2⟩ : _ ∧ MidK w b K r v C _ (k + 1) W w')))
  rw [er, ← ea] at HRD
  have HFX := Lib.hid (fun W => Fixed_n C.g W (by omega))
  have HH := Lib.hid h
  have HG4 : Hid (C.g ≤ 4) := Lib.hid (by omega)
  have HM := Lib.hid hm
  have HD := Lib.hid ((Frm.Turn.refl [] W).drew)
  obtain ⟨A', HA⟩ : ∃ v, Hid (v = C.acc A) := ⟨_, Lib.hid rfl⟩
  rw [← HA.out] at HRD ⊢
  obtain ⟨C', HC'⟩ : ∃ v, Hid (v = C.step n f) := ⟨_, Lib.hid rfl⟩
  have HST : Hid (C' = if C.g < n then { C with ph := 1, node := 1, m := C.g + 1 } else { C with ph := 2 }) := Lib.hid (by rw [HC'.out]; unfold Co.step; rw [if_pos h0])
  rw [← HC'.out]
  obtain ⟨val, HV⟩ : ∃ val, Hid (val = if C.g < n then hS C.g else 0) := ⟨_, Lib.hid rfl⟩
  rw [← HV.out] at HRD
  obtain ⟨x0, x1, x2, x3, x4⟩ := h.at_.body.cells
  have hmk := hmf
  clear h hk F S e1 e2 er ea HA HC' hm h0
  obtain ⟨gi, HGI⟩ : ∃ gi : Int, Hid (gi = (C.g : Int)) := ⟨_, Lib.hid rfl⟩
  rw [← HGI.out] at HFX HRD x2
  go_enter Tryz.func145, Tryz.ntmps145
  go_wp2_with fail
  go_cut [2] (fun s2 W2 => s2 = .int .u64 val ∧ MidK w b K r v C A' (k + 1) W W2)
  case first =>
    go_region_with (first
      | (go_at_call 164; (with_reducible refine (HFX.out _).mono ?_); rintro e w1 ⟨rfl, hT⟩; have HT1 := Lib.hid (HD.out.trans hT (by simp)); have d1 := HT1.out.cell x1 (by simp); clear hT)
      | (go_at_call 58; (with_reducible refine (HRD.out _ HT1.out).mono ?_); rintro e w2 ⟨rfl, ha⟩; have HA2 := Lib.hid ha; clear ha))
    all_goals go_wp2_with fail
    all_goals go_meet
    all_goals exact ⟨rfl, HA2.out⟩
  case rest =>
    obtain ⟨rfl, hmid⟩ := hcut
    have HMI := Lib.hid hmid
    obtain ⟨x, hb⟩ := hmid.at_.body
    by_cases hgn2 : C.g < n
    · have hv : val = hS C.g := by rw [HV.out, if_pos hgn2]
      have hv' : (val == 0) = false := by rw [hv]; simpa using hS_ne C.g
      have hst := HST.out
      rw [if_pos hgn2] at hst
      have HST2 := Lib.hid hst
      rw [HM.out] at hb
      have HB := Lib.hid hb
      have HBS := Lib.hid (((hb.setS (by have := HG4.out; omega)).setN 1).turn ((Frm.Turn.refl [] _).drew) (by simp))
      have e11 : ((1 : Nat) : Int) = 1 := rfl
      rw [e11] at HBS
      have HTT : Hid (Frm.Turn [r] wc (((wc.setCell ⟨r, 2 + C.g, none⟩ (.int .u64 (hS C.g))).setCell ⟨r, 11, none⟩ (.int .i64 1))).drew) := Lib.hid (turn_set2 wc r _ _ _ _).drew
      have HE := Lib.hid (setO_any HBS.out (nxO r 1) (nxO_fn r 1))
      obtain ⟨k0, k1, k2, k3, k4⟩ := hb.cells
      have k5 := hb.seg (show C.g < 8 by have := HG4.out; omega)
      have f5 := hb.thaw (2 + C.g)
      have f11 := hb.thaw 11
      have b0 : (0 : Int) ≤ (C.g : Int) := by omega
      have b1 : (C.g : Int) < 8 := by have := HG4.out; omega
      have b2 : (C.g : Int) ≤ 4 := by have := HG4.out; omega
      subst hv
      clear hmid hb hgn2 hst e11 HV HRD HFX x0 x1 x2 x3 x4
      have e5 : nxO r 1 = .func (.func 165) #[.pointer (some ⟨r, 0, none⟩)] #[] := rfl
      rw [e5] at HE
      clear e5
      go_upto_region 3 with fail
      go_region
      all_goals go_wp2_with (go_at_call 66; (with_reducible refine (HE.out).mono ?_); rintro e w1 ⟨rfl, hb, hT⟩)
      all_goals go_end0
      all_goals have hT2 := HTT.out.trans hT (fun k hk => .inl hk)
      all_goals refine ⟨rfl, mid_end HH.out HMI.out hT2 ?_⟩
      all_goals rw [HST2.out]
      all_goals exact ⟨hb, Frm.owns_turn HMI.out.at_.row hT2 (fun q hq => by simpa using HMI.out.at_.vr q hq), HMI.out.at_.vr⟩
    · have hv : val = 0 := by rw [HV.out, if_neg hgn2]
      have hv' : (val == 0) = true := by rw [hv]; rfl
      have hst := HST.out
      rw [if_neg hgn2] at hst
      have HST2 := Lib.hid hst
      have HE := Lib.hid (endO_any hb)
      subst hv
      clear hmid hb hgn2 hst HV HRD HFX x0 x1 x2 x3 x4
      go_wp2_with (go_at_call 125; (with_reducible refine (HE.out).mono ?_); rintro e w1 ⟨rfl, hb, hT⟩)
      refine bodyPost_ret (results_none rfl _ _ _) rfl ⟨rfl, mid_end HH.out HMI.out hT ?_⟩
      rw [HST2.out]
      exact ⟨hb, Frm.owns_turn HMI.out.at_.row hT (fun q hq => by simpa using HMI.out.at_.vr q hq), HMI.out.at_.vr⟩
set_option maxRecDepth 100000 in
set_option maxHeartbeats 4000000 in
/-- Is somebody counted at the node? -/
theorem isCounted_any (h : CoK w b K r v C A k W) (hk : k ≤ 1000000) (hn : n ≤ 4) (F : C.Fit n) (S : SegB A n f) (h0 : C.ph = 1) :
    Calls Tryz.prog 173 #[.pointer (some ⟨r, 0, none⟩)] W fun e w' => e = .returned (.bool (f C.g (5 * 2 ^ C.g + C.node) != 0)) ∧ MidK w b K r v C (C.acc A) (k + 1) W w' := by
  obtain ⟨l1, l2, l3, l4⟩ := F.look h0
  have hp := pow16 (show C.g ≤ 4 by omega)
  obtain ⟨e1, e2⟩ := S.at_ (g := C.g) (j := 5 * 2 ^ C.g + C.node) l1 (by omega)
  have er : (A.read (hS C.g) ((5 * 2 ^ C.g + C.node : Nat) : Int)).2 = (f C.g (5 * 2 ^ C.g + C.node), 0) := by unfold Ar.read; rw [if_pos e1, e2]
  have ea : C.acc A = (A.read (hS C.g) ((5 * 2 ^ C.g + C.node : Nat) : Int)).1 := by unfold Co.acc; rw [if_neg (by omega), if_pos h0]
  have HCT := Lib.hid (fun W => Counter_n (hS C.g) C.g C.node W (by omega) l2 l3 (by simpa using hS_ne C.g))
  have HRD := Lib.hid (fun W' (hT : Frm.Turn [] W W') => (kin_read (h.kin.step hT) (by omega) (hS C.g) ((5 * 2 ^ C.g + C.node : Nat) : Int) (hS_64 (by omega)) (wf_small (by omega) (by omega))).mono (fun e w' ⟨he, h1, h2⟩ => (⟨he, mid_of h hT h1 h2⟩ : _ ∧ MidK w b K r v C _ (k + 1) W w')))
  rw [er, ← ea] at HRD
  obtain ⟨ad, HY⟩ : ∃ y : Int, Hid (y = ((5 * 2 ^ C.g + C.node : Nat) : Int)) := ⟨_, Lib.hid rfl⟩
  rw [← HY.out] at HRD HCT
  obtain ⟨A', HA⟩ : ∃ v, Hid (v = C.acc A) := ⟨_, Lib.hid rfl⟩
  rw [← HA.out] at HRD ⊢
  obtain ⟨val, HV⟩ : ∃ val, Hid (val = f C.g (5 * 2 ^ C.g + C.node)) := ⟨_, Lib.hid rfl⟩
  rw [← HV.out] at HRD ⊢
  have HTD := Lib.hid ((Frm.Turn.refl [] W).drew)
  have hcb := h.at_.body
  rw [l4] at hcb
  have HCB := Lib.hid hcb
  have hb8 := l1
  obtain ⟨x0, x1, x2, x3, x4⟩ := hcb.cells
  have HX : Hid (∀ W', Frm.Turn [] W W' → W'.cell? ⟨r, 10, none⟩ = some (.int .i64 C.g) ∧ W'.cell? ⟨r, 2 + C.g, none⟩ = some (.int .u64 (hS C.g)) ∧ W'.cell? ⟨r, 11, none⟩ = some (.int .i64 C.node)) := Lib.hid (fun W' hT => by
    have h1 := HCB.out.turn hT (by simp)
    obtain ⟨_, _, y2, y3, _⟩ := h1.cells
    have y5 := h1.seg (j := C.g) (by omega)
    rw [sv_at (by omega)] at y5
    exact ⟨y2, y5, y3⟩)
  have b0 : (0 : Int) ≤ (C.g : Int) := by omega
  have b1 : (C.g : Int) < 8 := by omega
  have b2 : (C.g : Int) ≤ 4 := by omega
  clear h hk F S e1 e2 er ea HA HV HY h0 l1 l2 l3 l4 hp hcb x0 x2 x3 x4 hb8
  obtain ⟨gi, HGI⟩ : ∃ gi : Int, Hid (gi = (hS C.g)) := ⟨_, Lib.hid rfl⟩
  rw [← HGI.out] at HRD HCT HX
  go_enter Tryz.func173, Tryz.ntmps173
  go_upto_region 1 with fail
  go_cut [3, 4] (fun s3 s4 W2 => ∃ x, s3 = .pointer (some ⟨x, 0, none⟩) ∧ s4 = .bool true ∧ AdrAt W x gi ad W2)
  case first =>
    refine wp_region_held_drew (S := fun W' => Frm.Turn [] W W') (by kernel_rfl) ?_ (fun hHeld => ?_)
    · exact HTD.out
    refine wpAnyH_take (i := 0) (v := ?_) rfl (by kernel_rfl) (by kernel_rfl) (by kernel_rfl) (fun _ _ _ h => h) (Or.inl ⟨by rfl, ?_⟩) (by assumption) ?_
    rotate_left
    · (intro w hSw; (try dsimp only at hSw); go_simp; try with_reducible rfl)
    try simp only [Act.put, List.getElem_toArray, List.getElem_cons_succ, List.getElem_cons_zero, List.setIfInBounds_toArray, List.set_cons_zero, List.set_cons_succ]
    refine wpAnyH_take (i := 1) (v := ?_) rfl (by kernel_rfl) (by kernel_rfl) (by kernel_rfl) (fun _ _ _ h => h) (Or.inl ⟨by rfl, ?_⟩) (by assumption) ?_
    rotate_left
    · (intro w hSw; (try dsimp only at hSw); go_simp; try with_reducible rfl)
    try simp only [Act.put, List.getElem_toArray, List.getElem_cons_succ, List.getElem_cons_zero, List.setIfInBounds_toArray, List.set_cons_zero, List.set_cons_succ]
    refine wpAnyH_take (i := 2) (v := ?_) rfl (by kernel_rfl) (by kernel_rfl) (by kernel_rfl) (fun _ _ _ h => h) (Or.inl ⟨by rfl, ?_⟩) (by assumption) ?_
    rotate_left
    · (intro w hSw; (try dsimp only at hSw); go_simp; try with_reducible rfl)
    try simp only [Act.put, List.getElem_toArray, List.getElem_cons_succ, List.getElem_cons_zero, List.setIfInBounds_toArray, List.set_cons_zero, List.set_cons_succ]
    refine wpAnyH_take (i := 3) (v := ?_) rfl (by kernel_rfl) (by kernel_rfl) (by kernel_rfl) (fun _ _ _ h => h) (Or.inl ⟨by rfl, ?_⟩) (by assumption) ?_
    rotate_left
    · (intro w hSw; (try dsimp only at hSw); go_simp; try with_reducible rfl)
    try simp only [Act.put, List.getElem_toArray, List.getElem_cons_succ, List.getElem_cons_zero, List.setIfInBounds_toArray, List.set_cons_zero, List.set_cons_succ]
    refine wpAnyH_take (i := 4) (v := ?_) rfl (by kernel_rfl) (by kernel_rfl) (by kernel_rfl) (fun _ _ _ h => h) (Or.inl ⟨by rfl, ?_⟩) (by assumption) ?_
    rotate_left
    · (intro w hSw; (try dsimp only at hSw); obtain ⟨y2, y5, y3⟩ := HX.out w hSw; go_simp; try with_reducible rfl)
    try simp only [Act.put, List.getElem_toArray, List.getElem_cons_succ, List.getElem_cons_zero, List.setIfInBounds_toArray, List.set_cons_zero, List.set_cons_succ]
    refine wpAnyH_take (i := 5) (v := ?_) rfl (by kernel_rfl) (by kernel_rfl) (by kernel_rfl) (fun _ _ _ h => h) (Or.inl ⟨by rfl, ?_⟩) (by assumption) ?_
    rotate_left
    · (intro w hSw; (try dsimp only at hSw); go_simp; try with_reducible rfl)
    try simp only [Act.put, List.getElem_toArray, List.getElem_cons_succ, List.getElem_cons_zero, List.setIfInBounds_toArray, List.set_cons_zero, List.set_cons_succ]
    refine wpAnyH_take (i := 6) (v := ?_) rfl (by kernel_rfl) (by kernel_rfl) (by kernel_rfl) (fun _ _ _ h => h) (Or.inl ⟨by rfl, ?_⟩) (by assumption) ?_
    rotate_left
    · (intro w hSw; (try dsimp only at hSw); go_simp; try with_reducible rfl)
    try simp only [Act.put, List.getElem_toArray, List.getElem_cons_succ, List.getElem_cons_zero, List.setIfInBounds_toArray, List.set_cons_zero, List.set_cons_succ]
    refine wpAnyH_take (i := 7) (v := ?_) rfl (by kernel_rfl) (by kernel_rfl) (by kernel_rfl) (fun _ _ _ h => h) (Or.inl ⟨by rfl, ?_⟩) (by assumption) ?_
    rotate_left
    · (intro w hSw; (try dsimp only at hSw); go_simp; try with_reducible rfl)
    try simp only [Act.put, List.getElem_toArray, List.getElem_cons_succ, List.getElem_cons_zero, List.setIfInBounds_toArray, List.set_cons_zero, List.set_cons_succ]
    refine wpAnyH_take (i := 8) (v := ?_) rfl (by kernel_rfl) (by kernel_rfl) (by kernel_rfl) (fun _ _ _ h => h) (Or.inl ⟨by rfl, ?_⟩) (by assumption) ?_
    rotate_left
    · (intro w hSw; (try dsimp only at hSw); obtain ⟨y2, y5, y3⟩ := HX.out w hSw; go_simp; try with_reducible rfl)
    try simp only [Act.put, List.getElem_toArray, List.getElem_cons_succ, List.getElem_cons_zero, List.setIfInBounds_toArray, List.set_cons_zero, List.set_cons_succ]
    refine wpAnyH_take (i := 9) (v := ?_) rfl (by kernel_rfl) (by kernel_rfl) (by kernel_rfl) (fun _ _ _ h => h) (Or.inl ⟨by rfl, ?_⟩) (by assumption) ?_
    rotate_left
    · (intro w hSw; (try dsimp only at hSw); go_simp; try with_reducible rfl)
    try simp only [Act.put, List.getElem_toArray, List.getElem_cons_succ, List.getElem_cons_zero, List.setIfInBounds_toArray, List.set_cons_zero, List.set_cons_succ]
    refine wpAnyH_take (i := 10) (v := ?_) rfl (by kernel_rfl) (by kernel_rfl) (by kernel_rfl) (fun _ _ _ h => h) (Or.inl ⟨by rfl, ?_⟩) (by assumption) ?_
    rotate_left
    · (intro w hSw; (try dsimp only at hSw); go_simp; try with_reducible rfl)
    try simp only [Act.put, List.getElem_toArray, List.getElem_cons_succ, List.getElem_cons_zero, List.setIfInBounds_toArray, List.set_cons_zero, List.set_cons_succ]
    refine wpAnyH_take (i := 11) (v := ?_) rfl (by kernel_rfl) (by kernel_rfl) (by kernel_rfl) (fun _ _ _ h => h) (Or.inl ⟨by rfl, ?_⟩) (by assumption) ?_
    rotate_left
    · (intro w hSw; (try dsimp only at hSw); go_simp; try with_reducible rfl)
    try simp only [Act.put, List.getElem_toArray, List.getElem_cons_succ, List.getElem_cons_zero, List.setIfInBounds_toArray, List.set_cons_zero, List.set_cons_succ]
    refine wpAnyH_take (i := 12) (v := ?_) rfl (by kernel_rfl) (by kernel_rfl) (by kernel_rfl) (fun _ _ _ h => h) (Or.inl ⟨by rfl, ?_⟩) (by assumption) ?_
    rotate_left
    · (intro w hSw; (try dsimp only at hSw); obtain ⟨y2, y5, y3⟩ := HX.out w hSw; go_simp; try with_reducible rfl)
    try simp only [Act.put, List.getElem_toArray, List.getElem_cons_succ, List.getElem_cons_zero, List.setIfInBounds_toArray, List.set_cons_zero, List.set_cons_succ]
    refine wpAnyH_take (i := 13) (v := ?_) rfl (by kernel_rfl) (by kernel_rfl) (by kernel_rfl) (fun _ _ _ h => h) (Or.inl ⟨by rfl, ?_⟩) (by assumption) ?_
    rotate_left
    · (intro w hSw; (try dsimp only at hSw); go_simp; try with_reducible rfl)
    try simp only [Act.put, List.getElem_toArray, List.getElem_cons_succ, List.getElem_cons_zero, List.setIfInBounds_toArray, List.set_cons_zero, List.set_cons_succ]
    refine wpAnyH_take (i := 14) (v := ?_) rfl (by kernel_rfl) (by kernel_rfl) (by kernel_rfl) (fun _ _ _ h => h) (Or.inl ⟨by rfl, ?_⟩) (by assumption) ?_
    rotate_left
    · (intro w hSw; (try dsimp only at hSw); go_simp; try with_reducible rfl)
    try simp only [Act.put, List.getElem_toArray, List.getElem_cons_succ, List.getElem_cons_zero, List.setIfInBounds_toArray, List.set_cons_zero, List.set_cons_succ]
    refine wpAnyH_take (i := 15) (v := ?_) rfl (by kernel_rfl) (by kernel_rfl) (by kernel_rfl) (fun _ _ _ h => h) (Or.inl ⟨by rfl, ?_⟩) (by assumption) ?_
    rotate_left
    · (intro w hSw; (try dsimp only at hSw); go_simp; try with_reducible rfl)
    try simp only [Act.put, List.getElem_toArray, List.getElem_cons_succ, List.getElem_cons_zero, List.setIfInBounds_toArray, List.set_cons_zero, List.set_cons_succ]
    refine wpAnyH_take (i := 16) (v := ?_) rfl (by kernel_rfl) (by kernel_rfl) (by kernel_rfl) (fun _ _ _ h => h) (Or.inl ⟨by rfl, ?_⟩) (by assumption) ?_
    rotate_left
    · (intro w hSw; (try dsimp only at hSw); obtain ⟨y2, y5, y3⟩ := HX.out w hSw; go_simp; try with_reducible rfl)
    try simp only [Act.put, List.getElem_toArray, List.getElem_cons_succ, List.getElem_cons_zero, List.setIfInBounds_toArray, List.set_cons_zero, List.set_cons_succ]
    refine wpAnyH_ready (rs := [17, 21]) (by kernel_rfl) (by simp) ?_
    refine (AllReadyH.cons rfl (fun K hK => ?_) (AllReadyH.cons rfl (fun K hK => ?_) AllReadyH.nil))
    · try simp only [List.getElem_toArray, List.getElem_cons_succ, List.getElem_cons_zero]
      go_simp
      (go_at_call 189; (with_reducible refine (HCT.out _).mono ?_); rintro e w2 ⟨rfl, hT2⟩)
      try go_wp2_with fail
      refine hK.out _ _ (hHeld.trans hT2 (by simp)) (fun hHeld2 => ?_)
      clear hK K
      try simp only [Act.put, List.getElem_toArray, List.getElem_cons_succ, List.getElem_cons_zero, List.setIfInBounds_toArray, List.set_cons_zero, List.set_cons_succ]
      refine wpAnyH_take (i := 18) (v := ?_) rfl (by kernel_rfl) (by kernel_rfl) (by kernel_rfl) (fun _ _ _ h => h) (Or.inl ⟨by rfl, ?_⟩) (by assumption) ?_
      rotate_left
      · (intro w hSw; (try dsimp only at hSw); go_simp; try with_reducible rfl)
      try simp only [Act.put, List.getElem_toArray, List.getElem_cons_succ, List.getElem_cons_zero, List.setIfInBounds_toArray, List.set_cons_zero, List.set_cons_succ]
      refine wpAnyH_take (i := 19) (v := ?_) rfl (by kernel_rfl) (by kernel_rfl) (by kernel_rfl) (fun _ _ _ h => h) (Or.inl ⟨by rfl, ?_⟩) (by assumption) ?_
      rotate_left
      · (intro w hSw; (try dsimp only at hSw); go_simp; try with_reducible rfl)
      try simp only [Act.put, List.getElem_toArray, List.getElem_cons_succ, List.getElem_cons_zero, List.setIfInBounds_toArray, List.set_cons_zero, List.set_cons_succ]
      refine wpAnyH_take (i := 20) (v := ?_) rfl (by kernel_rfl) (by kernel_rfl) (by kernel_rfl) (fun _ _ _ h => h) (Or.inl ⟨by rfl, ?_⟩) (by assumption) ?_
      rotate_left
      · (intro w hSw; (try dsimp only at hSw); go_simp; try with_reducible rfl)
      try simp only [Act.put, List.getElem_toArray, List.getElem_cons_succ, List.getElem_cons_zero, List.setIfInBounds_toArray, List.set_cons_zero, List.set_cons_succ]
      refine wpAnyH_ready (rs := [21]) (by kernel_rfl) (by simp) ?_
      refine AllReadyH.cons rfl (fun K hK => ?_) AllReadyH.nil
      try simp only [List.getElem_toArray, List.getElem_cons_succ, List.getElem_cons_zero]
      go_simp
      refine hK.out _ _ (hHeld2.alloc _) (fun hHeld3 => ?_)
      clear hK K
      try simp only [Act.put, List.getElem_toArray, List.getElem_cons_succ, List.getElem_cons_zero, List.setIfInBounds_toArray, List.set_cons_zero, List.set_cons_succ]
      refine wpAnyH_ready (rs := [22]) (by kernel_rfl) (by simp) ?_
      refine AllReadyH.cons rfl (fun K hK => ?_) AllReadyH.nil
      try simp only [List.getElem_toArray, List.getElem_cons_succ, List.getElem_cons_zero]
      go_simp
      refine hK.out _ _ (hHeld2.alloc _) (fun hHeld4 => ?_)
      clear hK K
      try simp only [Act.put, List.getElem_toArray, List.getElem_cons_succ, List.getElem_cons_zero, List.setIfInBounds_toArray, List.set_cons_zero, List.set_cons_succ]
      refine wpAnyH_take (i := 23) (v := ?_) rfl (by kernel_rfl) (by kernel_rfl) (by kernel_rfl) (fun _ _ _ h => h) (Or.inl ⟨by rfl, ?_⟩) (by assumption) ?_
      rotate_left
      · (intro w hSw; (try dsimp only at hSw); go_simp; try with_reducible rfl)
      try simp only [Act.put, List.getElem_toArray, List.getElem_cons_succ, List.getElem_cons_zero, List.setIfInBounds_toArray, List.set_cons_zero, List.set_cons_succ]
      refine wpAnyH_done (by kernel_rfl) ?_ _
      go_wp2_with fail
      go_meet
      exact ⟨_, rfl, rfl, World.alloc_heap_new w2 _, hHeld2.size, hHeld2.alloc _⟩
    · try simp only [List.getElem_toArray, List.getElem_cons_succ, List.getElem_cons_zero]
      go_simp
      refine hK.out _ _ (hHeld.alloc _) (fun hHeld1 => ?_)
      clear hK K
      try simp only [Act.put, List.getElem_toArray, List.getElem_cons_succ, List.getElem_cons_zero, List.setIfInBounds_toArray, List.set_cons_zero, List.set_cons_succ]
      refine wpAnyH_ready (rs := [17]) (by kernel_rfl) (by simp) ?_
      refine AllReadyH.cons rfl (fun K hK => ?_) AllReadyH.nil
      try simp only [List.getElem_toArray, List.getElem_cons_succ, List.getElem_cons_zero]
      go_simp
      (go_at_call 189; (with_reducible refine (HCT.out _).mono ?_); rintro e w2 ⟨rfl, hT2⟩)
      have hn2 := hT2.keep (World.alloc_heap_new W.drew _) (by simp)
      have n0 : w2.cell? ⟨W.heap.size, 0, none⟩ = some (.int .u64 0) := (Frm.cell_row _ _ 0 _ _ _ hn2).trans rfl
      have n1 : w2.cell? ⟨W.heap.size, 1, none⟩ = some (.int .i64 0) := (Frm.cell_row _ _ 1 _ _ _ hn2).trans rfl
      have f0 : w2.frozen? ⟨W.heap.size, 0, none⟩ = false := Frm.frozen_row _ _ 0 _ _ hn2
      have f1 : w2.frozen? ⟨W.heap.size, 1, none⟩ = false := Frm.frozen_row _ _ 1 _ _ hn2
      have HN2 := Lib.hid hn2
      clear hn2
      try go_wp2_with fail
      refine hK.out _ _ (hHeld1.trans hT2 (by simp)) (fun hHeld2 => ?_)
      clear hK K
      try simp only [Act.put, List.getElem_toArray, List.getElem_cons_succ, List.getElem_cons_zero, List.setIfInBounds_toArray, List.set_cons_zero, List.set_cons_succ]
      refine wpAnyH_take (i := 18) (v := ?_) rfl (by kernel_rfl) (by kernel_rfl) (by kernel_rfl) (fun _ _ _ h => h) (Or.inl ⟨by rfl, ?_⟩) (by assumption) ?_
      rotate_left
      · (intro w hSw; (try dsimp only at hSw); go_simp; try with_reducible rfl)
      try simp only [Act.put, List.getElem_toArray, List.getElem_cons_succ, List.getElem_cons_zero, List.setIfInBounds_toArray, List.set_cons_zero, List.set_cons_succ]
      refine wpAnyH_take (i := 19) (v := ?_) rfl (by kernel_rfl) (by kernel_rfl) (by kernel_rfl) (fun _ _ _ h => h) (Or.inl ⟨by rfl, ?_⟩) (by assumption) ?_
      rotate_left
      · (intro w hSw; (try dsimp only at hSw); go_simp; try with_reducible rfl)
      try simp only [Act.put, List.getElem_toArray, List.getElem_cons_succ, List.getElem_cons_zero, List.setIfInBounds_toArray, List.set_cons_zero, List.set_cons_succ]
      refine wpAnyH_take (i := 20) (v := ?_) rfl (by kernel_rfl) (by kernel_rfl) (by kernel_rfl) (fun _ _ _ h => h) (Or.inl ⟨by rfl, ?_⟩) (by assumption) ?_
      rotate_left
      · (intro w hSw; (try dsimp only at hSw); go_simp; try with_reducible rfl)
      try simp only [Act.put, List.getElem_toArray, List.getElem_cons_succ, List.getElem_cons_zero, List.setIfInBounds_toArray, List.set_cons_zero, List.set_cons_succ]
      refine wpAnyH_ready (rs := [22]) (by kernel_rfl) (by simp) ?_
      refine AllReadyH.cons rfl (fun K hK => ?_) AllReadyH.nil
      try simp only [List.getElem_toArray, List.getElem_cons_succ, List.getElem_cons_zero]
      go_simp
      refine hK.out _ _ ((hHeld2.setCell (p := ⟨W.heap.size, 0, none⟩) (.inr (Nat.le_refl _)) _).setCell (p := ⟨W.heap.size, 1, none⟩) (.inr (Nat.le_refl _)) _) (fun hHeld4 => ?_)
      clear hK K
      try simp only [Act.put, List.getElem_toArray, List.getElem_cons_succ, List.getElem_cons_zero, List.setIfInBounds_toArray, List.set_cons_zero, List.set_cons_succ]
      refine wpAnyH_take (i := 23) (v := ?_) rfl (by kernel_rfl) (by kernel_rfl) (by kernel_rfl) (fun _ _ _ h => h) (Or.inl ⟨by rfl, ?_⟩) (by assumption) ?_
      rotate_left
      · (intro w hSw; (try dsimp only at hSw); go_simp; try with_reducible rfl)
      try simp only [Act.put, List.getElem_toArray, List.getElem_cons_succ, List.getElem_cons_zero, List.setIfInBounds_toArray, List.set_cons_zero, List.set_cons_succ]
      refine wpAnyH_done (by kernel_rfl) ?_ _
      go_wp2_with fail
      go_meet
      have h1 := Frm.heap_set _ _ 0 _ _ _ (.int .u64 gi) HN2.out
      have h2 := Frm.heap_set _ _ 1 _ _ _ (.int .i64 ad) h1
      exact ⟨_, rfl, rfl, h2.trans (by simp), Nat.le_refl _, (hHeld2.setCell (p := ⟨W.heap.size, 0, none⟩) (.inr (Nat.le_refl _)) _).setCell (p := ⟨W.heap.size, 1, none⟩) (.inr (Nat.le_refl _)) _⟩
  case rest =>
    obtain ⟨x, rfl, rfl, hx⟩ := hcut
    clear HCT
    have hTD := hx.2.2.drew
    have hxd : AdrAt W x gi ad wc.drew := ⟨(Frm.Turn.refl [] wc).drew.keep hx.1 (by simp), hx.2.1, hTD⟩
    have y1 := (HCB.out.turn hTD (by simp)).cells.2.1
    have p0 : wc.drew.cell? ⟨x, 0, none⟩ = some (.int .u64 gi) := (Frm.cell_row _ _ 0 _ _ _ hxd.1).trans rfl
    have p1 : wc.drew.cell? ⟨x, 1, none⟩ = some (.int .i64 ad) := (Frm.cell_row _ _ 1 _ _ _ hxd.1).trans rfl
    have HAX := Lib.hid (HRD.out _ hTD)
    clear hx HRD hTD hxd x1
    go_wp2_with fail
    go_cut [5] (fun s5 W2 => s5 = .int .u64 val ∧ MidK w b K r v C A' (k + 1) W W2)
    case first =>
      go_region_with (go_at_call 58; (with_reducible refine (HAX.out).mono ?_); rintro e w1 ⟨rfl, ha⟩; have HA1 := Lib.hid ha; clear ha)
      all_goals go_wp2_with fail
      all_goals go_meet
      all_goals exact ⟨rfl, HA1.out⟩
    case rest =>
      obtain ⟨rfl, hm⟩ := hcut
      go_wp2_with fail
      go_ret
      exact ⟨rfl, hm⟩
theorem nat_ne (x : Nat) : (((x : Nat) : Int) != 0) = decide (x ≠ 0) := by
  by_cases h : x = 0 <;> simp [h]
theorem rows_off {base : Nat} {W : World} {v : Value} {n : Nat} {xs : List Value} (h : W.ownsRow base 46 2 v n xs) {q : Nat} (hq : v.ownBlock = some q) : ∃ cur, W.heap[q]? = some (.cells cur 46 (0, 0)) := by
  rcases h.2 with ⟨rfl, _⟩ | ⟨g, cap, cur, rfl, _, hg, _⟩
  · simp [Value.ownBlock] at hq
  · simp [Value.ownBlock] at hq; subst hq; exact ⟨cur, hg⟩
theorem under_pls : Tryz.prog.underlying 47 = some (.slice 46) := by kernel_rfl
theorem info_pl : (Tryz.prog.info? 46).map (fun i => (i.zero, i.size, i.bytes)) = some (some (.agg #[.int .u64 0, .int .i64 0]), 2, 16) := by kernel_rfl
theorem news2 (W : World) (s x : Int) : ∀ j u, [Value.int .u64 s, .int .i64 x][j]? = some u → (W.alloc (.cells #[.int .u64 s, .int .i64 x] 46)).cell? ((⟨W.heap.size, 0, none⟩ : Addr).add j) = some u := by
  intro j u hj
  have h := World.alloc_heap_new W (.cells #[.int .u64 s, .int .i64 x] 46)
  have hadd : (⟨W.heap.size, 0, none⟩ : Addr).add j = ⟨W.heap.size, j, none⟩ := by unfold Addr.add; split <;> simp_all
  rw [hadd, Frm.cell_row _ _ _ _ _ _ h]
  simpa using hj
/-- A place is put behind the others. -/
structure TookK (w : World) (b : Nat) (K : List Nat) (r : Nat) (v v' : Value) (C : Co) (s : Nat) (A' : Ar) (k : Nat) (W W' : World) : Prop where
  kin : Kin w b (v'.ownBlock.toList ++ K) A' k W'
  at_ : CoMid W' w.heap.size r b { C with L := C.L ++ [s] } v'
  fr : CoFr w K r v W W'
  new : v'.ownBlock = v.ownBlock ∨ ∃ q, v'.ownBlock = some q ∧ W.heap.size ≤ q
theorem took_of (h : CoK w b K r v C A k W) {A' : Ar} {k' s : Nat} {W2 W3 : World} {v' : Value} (hm : MidK w b K r v C A' k' W W2) {W2' : World} (hd : Frm.Turn [] W2 W2') (hown : W3.ownsRow w.heap.size 46 2 v' (C.L.length + 1) (plCells C.L ++ [.int .u64 (hS (sgN s)), .int .i64 s])) (hg : W2'.grownBy W3 v.ownBlock) (hl : v'.ownBlock = v.ownBlock ∨ v'.ownBlock = some W2'.heap.size) :
    TookK w b K r v v' C s A' k' W (W3.setCell ⟨r, 12, none⟩ v') := by
  obtain ⟨F, hT, f1, f2⟩ := hm.fr
  have d1 := hd
  have d2 : Frm.Turn v.ownBlock.toList W2' W3 := Frm.Turn.of_grown hg
  have hvlow : ∀ q, v.ownBlock = some q → w.heap.size ≤ q := fun q hq => (h.at_.row.lt q hq).1
  have hvlt : ∀ q, v.ownBlock = some q → q < W.heap.size := fun q hq => (h.at_.row.lt q hq).2
  have hr : r < W.heap.size := h.at_.body.lt
  have z1 := hT.size
  have z2 := d1.size
  have z3 := d2.size
  have hvr : r ∉ v.ownBlock.toList := fun e => h.at_.vr r (by simpa using e) rfl
  obtain ⟨x, hb⟩ := hm.at_.body
  have hb3 := (hb.turn d1 (by simp)).turn d2 hvr
  have hset := turn_set W3 r 12 v'
  have hv' : ∀ q, v'.ownBlock = some q → q ≠ r := fun q hq => by
    rcases hl with e | e
    · exact h.at_.vr q (by rw [← e]; exact hq)
    · rw [e] at hq; cases hq; omega
  have hv'l : ∀ q, v'.ownBlock = some q → q < W3.heap.size := fun q hq => (hown.lt q hq).2
  have k1 := (hm.kin.step d1).poke d2 (fun q hq => ⟨h.vK q (by simpa using hq), hvlow q (by simpa using hq)⟩)
  refine ⟨?_, ⟨⟨_, hb3.setP v'⟩, ?_, hv'⟩, ?_, ?_⟩
  · have k2 : Kin w b (v'.ownBlock.toList ++ K) A' k' W3 := by
      rcases hl with e | e
      · refine k1.sub (fun q hq => ?_)
        rcases List.mem_append.1 hq with hq | hq
        · exact h.vK q (by rw [← e]; simpa using hq)
        · exact hq
      · obtain ⟨M, m1, m2⟩ := hm.kin.step d1
        refine ⟨M, m1.apart d2 (fun q hq hq' => (m2 q (h.vK q (by simpa using hq'))).1 hq) (fun q hq => hvlow q (by simpa using hq)), fun q hq => ?_⟩
        rcases List.mem_append.1 hq with hq | hq
        · rw [e] at hq; simp at hq; subst hq
          exact ⟨fun hk => by have := m1.lt hk; omega, hv'l _ (by rw [e])⟩
        · exact ⟨(m2 q hq).1, by have := (m2 q hq).2; omega⟩
    exact k2.poke hset (fun q hq => by simp at hq; subst hq; exact ⟨List.mem_append_right _ h.rK, h.low⟩)
  · rw [plCells_snoc, List.length_append, List.length_singleton]
    exact Frm.owns_turn hown hset (fun q hq => by simpa using hv' q hq)
  · refine ⟨r :: (v.ownBlock.toList ++ F), ?_, fun q hq h1 h2 hm => ?_, fun q hq => ?_⟩
    · refine ((hT.mono (fun q hq => by simp [hq])).trans (d1.mono (G := r :: (v.ownBlock.toList ++ F)) (by simp)) (fun q hq => .inl hq)).trans ((d2.mono (G := r :: (v.ownBlock.toList ++ F)) (fun q hq => by simp at hq; simp [hq])).trans hset (fun q hq => .inl (by simp at hq; simp [hq]))) (fun q hq => .inl hq)
    · rcases List.mem_cons.1 hm with e | hm
      · exact h1 e
      · rcases List.mem_append.1 hm with hm | hm
        · exact h2 (by simpa using hm)
        · exact f1 q hq h1 h2 hm
    · rcases List.mem_cons.1 hq with rfl | hq
      · exact h.low
      · rcases List.mem_append.1 hq with hq | hq
        · exact hvlow q (by simpa using hq)
        · exact f2 q hq
  · rcases hl with e | e
    · exact .inl e
    · exact .inr ⟨_, e, by omega⟩
/-- Behind a step. -/
def CoDone (w : World) (b : Nat) (K : List Nat) (r : Nat) (v : Value) (C' : Co) (A' : Ar) (k : Nat) (W W' : World) : Prop :=
  ∃ v', CoK w b (v'.ownBlock.toList ++ K) r v' C' A' k W' ∧ CoFr w K r v W W' ∧ (v'.ownBlock = v.ownBlock ∨ ∃ q, v'.ownBlock = some q ∧ W.heap.size ≤ q)
theorem done_same {C' : Co} {A' : Ar} {k' : Nat} (h : CoK w b K r v C' A' k' W') (hf : CoFr w K r v W W') : CoDone w b K r v C' A' k' W W' := by
  refine ⟨v, ⟨h.kin.sub (fun q hq => ?_), h.at_, List.mem_append_right _ h.rK, h.low, fun q hq => List.mem_append_left _ (by simp [hq])⟩, hf, .inl rfl⟩
  rcases List.mem_append.1 hq with hq | hq
  · exact h.vK q (by simpa using hq)
  · exact hq
theorem done_took (h : CoK w b K r v C A k W) {A' : Ar} {k' s : Nat} {v' : Value} {C' : Co} {W2 W3 : World} (ht : TookK w b K r v v' C s A' k' W W2) (hT : Frm.Turn [r] W2 W3) (hc : CoAt W3 w.heap.size r b C' v') : CoDone w b K r v C' A' k' W W3 :=
  ⟨v', ⟨ht.kin.poke hT (fun q hq => by simp at hq; subst hq; exact ⟨List.mem_append_right _ h.rK, h.low⟩), hc, List.mem_append_right _ h.rK, h.low, fun q hq => List.mem_append_left _ (by simp [hq])⟩, ht.fr.more hT h.low, ht.new⟩
set_option maxRecDepth 100000 in
set_option maxHeartbeats 4000000 in
theorem lookO_any (h : CoK w b K r v C A k W) (hk : k ≤ 1000000) (hn : n ≤ 4) (F : C.Fit n) (S : SegB A n f) (h0 : C.ph = 1) :
    Calls Tryz.prog 165 #[.pointer (some ⟨r, 0, none⟩)] W fun e w' => e = .returned (.tuple #[]) ∧ CoDone w b K r v (C.step n f) (C.acc A) (k + 1) W w' := by
  obtain ⟨l1, l2, l3, l4⟩ := F.look h0
  have hp := pow16 (show C.g ≤ 4 by omega)
  have HI := Lib.hid (isCounted_any h hk hn F S h0)
  have HH := Lib.hid h
  have hbe := beh_lt (show C.g < 8 by omega) l2 l3
  have HB := Lib.hid (fun W => behind_any C.node W l2 (by omega))
  have HG := Lib.hid (fun (D : Co) (u : Value) (y : Nat) (W' : World) (hm : CoMid W' w.heap.size r b D u) (hy : y ≤ 1000) (hg : D.g < 8) => goTo_any hm y hy hg)
  have HSL := Lib.hid (fun W => Slot_n C.g C.node W (by omega) l2 l3)
  have HLF := Lib.hid (fun W => left_any C.node W (by omega))
  obtain ⟨C', HC'⟩ : ∃ v, Hid (v = C.step n f) := ⟨_, Lib.hid rfl⟩
  obtain ⟨A', HA⟩ : ∃ v, Hid (v = C.acc A) := ⟨_, Lib.hid rfl⟩
  rw [← HC'.out, ← HA.out]
  rw [← HA.out] at HI
  have hst : C' = if f C.g (5 * 2 ^ C.g + C.node) = 0 then C.go (behN C.node) else if C.node < 2 ^ C.g then C.go (2 * C.node) else ({ C with L := C.L ++ [C.node - 1] } : Co).go (behN C.node) := by
    rw [HC'.out]; unfold Co.step; rw [if_neg (by omega), if_pos h0]
  have HFL := Lib.hid F.few
  have HN := Lib.hid (And.intro l1 (And.intro l2 (And.intro l3 (And.intro l4 (And.intro hbe hp)))))
  have HG8 : Hid (C.g < 8) := Lib.hid (by omega)
  have HBY : Hid (behN C.node ≤ 1000) := Lib.hid (by omega)
  have HPH := Lib.hid h0
  clear h hk F S h0 hbe
  by_cases hz : f C.g (5 * 2 ^ C.g + C.node) = 0
  · rw [if_pos hz] at hst
    have e0 : (f C.g (5 * 2 ^ C.g + C.node) != 0) = false := by rw [hz]; rfl
    rw [e0] at HI
    have HST := Lib.hid hst
    clear hst hz e0 l1 l2 l3 l4 hp
    go_enter Tryz.func165, Tryz.ntmps165
    go_upto_region 1 with (go_at_call 173; (with_reducible refine (HI.out).mono ?_); rintro e w1 ⟨rfl, hm⟩; have HM := Lib.hid hm; obtain ⟨xx, hb⟩ := hm.at_.body; obtain ⟨c0, c1, c2, c3, c4⟩ := hb.cells; have HGO := Lib.hid (HG.out C v (behN C.node) w1 hm.at_ HBY.out HG8.out); clear hm hb)
    go_wp2_with (first
      | (go_at_call 175; (with_reducible refine (HB.out _).mono ?_); rintro e w2 ⟨rfl, rfl⟩)
      | (go_at_call 174; (with_reducible refine (HGO.out).mono ?_); rintro e w3 ⟨rfl, hc, hT⟩))
    refine bodyPost_ret (results_none rfl _ _ _) rfl ⟨rfl, ?_⟩
    rw [HST.out]
    obtain ⟨m1, m2⟩ := mid_end HH.out HM.out hT hc
    exact done_same m1 m2
  · rw [if_neg hz] at hst
    have e0 : (f C.g (5 * 2 ^ C.g + C.node) != 0) = true := by simpa using hz
    rw [e0] at HI
    clear hz e0
    by_cases hl : C.node < 2 ^ C.g
    · rw [if_pos hl] at hst
      rw [if_pos hl, decide_eq_true hl] at HSL
      have HST := Lib.hid hst
      obtain ⟨y2, HY2⟩ : ∃ y2 : Nat, Hid (y2 = 2 * C.node) := ⟨_, Lib.hid rfl⟩
      have HLE : Hid (y2 ≤ 1000) := Lib.hid (by rw [HY2.out]; omega)
      rw [← HY2.out] at HLF HST
      clear hst hl l1 l2 l3 l4 hp
      go_enter Tryz.func165, Tryz.ntmps165
      go_upto_region 2 with (go_at_call 173; (with_reducible refine (HI.out).mono ?_); rintro e w1 ⟨rfl, hm⟩; have HM := Lib.hid hm; obtain ⟨xx, hb⟩ := hm.at_.body; obtain ⟨c0, c1, c2, c3, c4⟩ := hb.cells; have HGO := Lib.hid (HG.out C v y2 w1.drew (hm.at_.turn ((Frm.Turn.refl [] _).drew) (by simp) (by simp)) HLE.out HG8.out); have HTD : Hid (Frm.Turn [r] w1 w1.drew) := Lib.hid ((Frm.Turn.refl [r] w1).drew); clear hm hb)
      go_cut [2, 3] (fun s2 s3 W2 => s2 = .int .i64 0 ∧ s3 = .bool false ∧ W2 = w1.drew)
      case first =>
        go_region_with (go_at_call 176; (with_reducible refine (HSL.out _).mono ?_); rintro e w2 ⟨rfl, rfl⟩)
        all_goals go_wp2_with fail
        all_goals go_meet
        all_goals exact ⟨rfl, rfl, rfl⟩
      case rest =>
        obtain ⟨rfl, rfl, rfl⟩ := hcut
        go_wp2_with (first
          | (go_at_call 177; (with_reducible refine (HLF.out _).mono ?_); rintro e w2 ⟨rfl, rfl⟩)
          | (go_at_call 174; (with_reducible refine (HGO.out).mono ?_); rintro e w3 ⟨rfl, hc, hT⟩))
        refine bodyPost_ret (results_none rfl _ _ _) rfl ⟨rfl, ?_⟩
        rw [HST.out]
        obtain ⟨m1, m2⟩ := mid_end HH.out HM.out (HTD.out.trans hT (fun q hq => .inl hq)) hc
        exact done_same m1 m2
    · rw [if_neg hl] at hst
      rw [if_neg hl, decide_eq_false hl] at HSL
      have HST := Lib.hid hst
      have HSG := Lib.hid ((way (show C.g < 4 by omega) l2 l3).2.2.2 (by omega))
      have HLN := Lib.hid (show C.L.length ≤ 1000 from by
        have h1 := HFL.out
        obtain ⟨q1, q2, _⟩ := HSG.out
        have : C.pos = C.node - 1 := by
          by_cases e : C.ph = 1
          · rw [pos_1 e]; exact q1
          · exact absurd HPH.out e
        omega)
      have e3 : (C.node : Int) - 1 = ((C.node - 1 : Nat) : Int) := by omega
      rw [e3] at HSL
      clear hst hl l1 l2 l3 l4 hp e3
      obtain ⟨sn, HSN⟩ : ∃ sn : Nat, Hid (sn = C.node - 1) := ⟨_, Lib.hid rfl⟩
      rw [← HSN.out] at HSL HST HSG
      go_enter Tryz.func165, Tryz.ntmps165
      go_upto_region 2 with (go_at_call 173; (with_reducible refine (HI.out).mono ?_); rintro e w1 ⟨rfl, hm⟩; have HM := Lib.hid hm; obtain ⟨xx, hb⟩ := hm.at_.body; obtain ⟨c0, c1, c2, c3, c4⟩ := hb.cells; have HTD : Hid (Frm.Turn [] w1 w1.drew) := Lib.hid ((Frm.Turn.refl [] w1).drew); clear hm hb)
      go_cut [2, 3] (fun s2 s3 W2 => s2 = .int .i64 sn ∧ s3 = .bool true ∧ W2 = w1.drew)
      case first =>
        go_region_with (go_at_call 176; (with_reducible refine (HSL.out _).mono ?_); rintro e w2 ⟨rfl, rfl⟩)
        all_goals go_wp2_with fail
        all_goals go_meet
        all_goals exact ⟨rfl, rfl, rfl⟩
      case rest =>
        obtain ⟨rfl, rfl, rfl⟩ := hcut
        go_upto_region 5 with fail
        obtain ⟨i0, hi, hz0, hz1, hz2⟩ := Dr.info_parts info_pl
        have hrow := Frm.owns_turn HM.out.at_.row HTD.out (by simp)
        obtain ⟨ao, ac, hsl⟩ := Frm.row_form hrow
        have HSLV := Lib.hid hsl
        rw [hsl] at hrow c4
        obtain ⟨xx, hb⟩ := HM.out.at_.body
        rw [HN.out.2.2.2.1] at hb
        have c5 := hb.seg (j := C.g) HG8.out
        rw [sv_at (Nat.lt_succ_self _)] at c5
        have f12 := hb.thaw 12
        have hbl := hb.lt
        have hne : some r ≠ (Value.slice ao C.L.length ac).ownBlock := fun e => HM.out.at_.vr r (by rw [hsl]; exact e.symm) rfl
        have b0 : (0 : Int) ≤ (C.g : Int) := by omega
        have b1 : (C.g : Int) < 8 := by have := HG8.out; omega
        have HROW := Lib.hid hrow
        have HBL := Lib.hid hbl
        have HNE := Lib.hid hne
        have HBS : Hid (w.heap.size ≤ w1.drew.heap.size) := Lib.hid HM.out.kin.turn.size
        have hC4 := Lib.hid c4
        have hF4 := Lib.hid f12
        have a4 : (w1.alloc (.cells #[.int .u64 (hS C.g), .int .i64 sn] 46)).cell? ⟨r, 12, none⟩ = some (.slice ao C.L.length ac) := (World.cell?_alloc_lt _ _ _ hbl).trans c4
        clear hsl hb hbl hne hrow
        go_cut [] (fun W2 => ∃ v', TookK w b K r v v' C sn A' (k + 1) W W2)
        case first =>
          go_region_law (refine Frm.step_append_own rfl (.tmp 39) (.tmp 51) 47 rfl 46 i0 (.agg #[.int .u64 0, .int .i64 0]) 2 16 under_pls hi hz0 hz1 hz2 rfl (by decide) w.heap.size (.slice ao C.L.length ac) C.L.length _ rfl (HROW.out.alloc _) ⟨w1.drew.drew.heap.size, 0, none⟩ 1 1 [.int .u64 (hS C.g), .int .i64 sn] rfl rfl (news2 _ _ _) (by simp [Value.oneCell']) (by have := HLN.out; unfold maxLen; omega) (by have := HLN.out; omega) (by have := HBS.out; simp at this ⊢; omega) ?_; intro v' w3 hown3 hgrow3 hloc3; obtain ⟨ao', ac', rfl⟩ := Frm.row_form hown3; have hc3 := hgrow3.cell (a := ⟨r, 12, none⟩) ((World.cell?_alloc_lt _ _ _ HBL.out).trans hC4.out) HNE.out; have hf3 := (World.frozen?_of_block (hgrow3.block r (by have := HBL.out; simp; omega) HNE.out)).trans ((World.frozen?_alloc_old _ _ _ (Nat.ne_of_lt HBL.out)).trans hF4.out))
          all_goals go_wp2_with fail
          all_goals go_meet
          all_goals refine ⟨_, took_of (s := sn) HH.out HM.out (((Frm.Turn.refl [] w1).alloc (.cells #[.int .u64 (hS C.g), .int .i64 sn] 46)).drew.drew) (by rw [HSG.out.2.2.1]; exact hown3) (by rw [HSLV.out]; exact hgrow3) (by rw [HSLV.out]; exact hloc3)⟩
        case rest =>
          obtain ⟨v', ht⟩ := hcut
          obtain ⟨xx, hb⟩ := ht.at_.body
          obtain ⟨z0, z1, z2, z3, z4⟩ := hb.cells
          have HGO := Lib.hid (HG.out { C with L := C.L ++ [sn] } v' (behN C.node) wc ht.at_ HBY.out HG8.out)
          have HTK := Lib.hid ht
          clear ht hb c0 c1 c2 c3 c4 c5 f12 a4 hC4 hF4
          go_wp2_with (first
            | (go_at_call 175; (with_reducible refine (HB.out _).mono ?_); rintro e w2 ⟨rfl, rfl⟩)
            | (go_at_call 174; (with_reducible refine (HGO.out).mono ?_); rintro e w3 ⟨rfl, hc, hT⟩))
          go_end0
          refine ⟨rfl, ?_⟩
          rw [HST.out]
          exact done_took HH.out HTK.out hT hc
end ColB
end Go.Proofs.YtpajafecodkndaaGreat

set_option linter.unusedVariables false
set_option linter.unusedSimpArgs false
namespace Go.Proofs.YtpajafecodkndaaGreat
namespace ColB
open Go.RowKit Go.Maps Arn Pac Clm Cnt Col

variable {w W W' : World} {r b n k : Nat} {K : List Nat} {A : Ar} {C : Co} {v : Value} {f : Nat → Nat → Int} {base : Nat}
theorem entersO_find : Enters Tryz.prog 145 := enters_of Tryz.func145 (by kernel_rfl) rfl
theorem entersO_look : Enters Tryz.prog 165 := enters_of Tryz.func165 (by kernel_rfl) rfl
theorem gearO_any (h : CoK w b K r v C A k W) (hk : k ≤ 1000000) (hn : n ≤ 4) (F : C.Fit n) (S : SegB A n f) :
    Calls Tryz.prog 73 #[.pointer (some ⟨r, 0, none⟩)] W fun e w' => e = .returned (.tuple #[]) ∧ CoDone w b K r v (C.step n f) (C.acc A) (k + 1) W w' := by
  refine gstep_any r (nxO r C.ph) W h.at_.body.cells.1 ?_
  have h3 : C.ph = 0 ∨ C.ph = 1 ∨ C.ph = 2 := by have := F.ph; omega
  rcases h3 with h0 | h0 | h0
  · rw [show nxO r C.ph = .func (.func 145) #[.pointer (some ⟨r, 0, none⟩)] #[] by rw [h0]; rfl]
    exact call_fn #[.pointer (some ⟨r, 0, none⟩)] #[] W entersO_find ((findO_any h hk hn F S h0).mono fun e w' ⟨he, h1, h2⟩ => ⟨he, done_same h1 h2⟩)
  · rw [show nxO r C.ph = .func (.func 165) #[.pointer (some ⟨r, 0, none⟩)] #[] by rw [h0]; rfl]
    exact call_fn #[.pointer (some ⟨r, 0, none⟩)] #[] W entersO_look (lookO_any h hk hn F S h0)
  · rw [show nxO r C.ph = .nilFunc by rw [h0]; rfl]
    refine (call_none W).mono ?_
    rintro e w' ⟨he, rfl⟩
    have e1 : C.step n f = C := by unfold Co.step; rw [if_neg (by omega), if_neg (by omega)]
    have e2 : C.acc A = A := by unfold Co.acc; rw [if_neg (by omega), if_neg (by omega)]
    rw [e1, e2]
    exact ⟨he, done_same ⟨h.kin.more (by omega), h.at_, h.rK, h.low, h.vK⟩ CoFr.refl⟩
theorem stepO_any (h : CoK w b K r v C A k W) (hk : k ≤ 1000000) (hn : n ≤ 4) (F : C.Fit n) (S : SegB A n f) :
    Calls Tryz.prog 225 #[.pointer (some ⟨r, 0, none⟩)] W fun e w' => e = .returned (.tuple #[]) ∧ CoDone w b K r v (C.step n f) (C.acc A) (k + 1) W w' := by
  have H := Lib.hid (gearO_any h hk hn F S)
  generalize C.acc A = A' at H ⊢
  generalize C.step n f = C' at H ⊢
  clear h F S
  go_enter Tryz.func225, Tryz.ntmps225
  go_wp2_with (go_at_call 73; (with_reducible refine (H.out).mono ?_); rintro e w1 ⟨rfl, ha⟩)
  go_end0
  exact ⟨rfl, ha⟩
theorem stepO_nil (W : World) : Calls Tryz.prog 225 #[.pointer none] W fun e w' => e = .returned (.tuple #[]) ∧ W = w' := by
  go_enter Tryz.func225, Tryz.ntmps225
  go_wp2
  go_end0
  exact ⟨rfl, rfl⟩
theorem doneO_any (h : CoAt W base r b C v) (hp : C.ph ≤ 2) :
    Calls Tryz.prog 224 #[.pointer (some ⟨r, 0, none⟩)] W fun e w' => e = .returned (.bool (decide (C.ph = 2))) ∧ W = w' := by
  have h1 := gdone_any r _ W (nxO_fn r C.ph) h.body.cells.1
  have e : idle (nxO r C.ph) = decide (C.ph = 2) := by
    have h3 : C.ph = 0 ∨ C.ph = 1 ∨ C.ph = 2 := by omega
    rcases h3 with h0 | h0 | h0 <;> rw [h0] <;> rfl
  rw [e] at h1
  have H := Lib.hid h1
  clear h1 h e
  generalize decide (C.ph = 2) = z at H ⊢
  go_enter Tryz.func224, Tryz.ntmps224
  go_wp2_with (go_at_call 76; (with_reducible refine (H.out).mono ?_); rintro e w1 ⟨rfl, rfl⟩)
  go_ret
  exact ⟨rfl, rfl⟩
theorem doneO_nil (W : World) : Calls Tryz.prog 224 #[.pointer none] W fun e w' => e = .returned (.bool true) ∧ W = w' := by
  go_enter Tryz.func224, Tryz.ntmps224
  go_wp2
  go_ret
  exact ⟨rfl, rfl⟩
theorem pl_one (L : List Nat) : ∀ u ∈ plCells L, u.oneCell' = true := by
  intro u hu
  unfold plCells at hu
  rw [List.mem_flatMap] at hu
  obtain ⟨s, _, hu⟩ := hu
  simp at hu
  rcases hu with rfl | rfl <;> rfl
set_option maxHeartbeats 2000000 in
theorem pclone_any (v : Value) (L : List Nat) (w : World) (h : w.ownsRow base 46 2 v L.length (plCells L)) (hn : L.length ≤ 65536) :
    Calls Tryz.prog 147 #[v] w fun e w' => ∃ v', e = .returned v' ∧ w'.ownsRow w.heap.size 46 2 v' L.length (plCells L) ∧ Frm.Turn [] w w' := by
  rcases h.2 with ⟨rfl, hz⟩ | ⟨g, c, cur, rfl, _⟩
  · have hq := fun w => Lib.run_eql_slice_nil (P := Tryz.prog) w 47 _ none 0 0 0 0 under_pls
    have hL : L = [] := List.eq_nil_of_length_eq_zero hz
    subst hL
    clear h hz hn
    go_enter Tryz.func147, Tryz.ntmps147
    go_wp2
    go_ret
    exact ⟨_, rfl, World.ownsRow_nil _ _ _ _, Frm.Turn.refl _ _⟩
  · obtain ⟨n, hnn⟩ : ∃ n, n = L.length := ⟨_, rfl⟩
    rw [← hnn] at h hn ⊢
    have hq := fun w => Lib.run_eql_slice_nil (P := Tryz.prog) w 47 _ (some ⟨g, 0, none⟩) n c 0 0 under_pls
    have H := Lib.hid h
    obtain ⟨i0, hi, hz0, hz1, hz2⟩ := Dr.info_parts info_pl
    have HO : Hid ((w.alloc (.cells #[] 46)).ownsRow w.heap.size 46 2 (.slice (some ⟨w.heap.size, 0, none⟩) 0 0) 0 []) := Lib.hid (World.ownsRow_made w #[] 0 (Nat.le_refl _) (by simp [maxLen]) (by simp))
    clear h hnn
    go_enter Tryz.func147, Tryz.ntmps147
    go_wp2_with (at_builtin; refine Frm.wpList_append_rows _ rfl (.tmp 5) (.tmp 6) 47 rfl w.heap.size 46 i0 (.agg #[.int .u64 0, .int .i64 0]) 2 16 under_pls hi hz0 hz1 hz2 rfl (by decide) (.slice (some ⟨w.heap.size, 0, none⟩) 0 0) 0 [] rfl HO.out _ rfl n base (plCells L) (H.out.alloc _) (pl_one L) (by unfold maxLen; omega) (by omega) (by simp) ?_; intro v1 w3 hown3 hg3 hl3; simp only [Nat.zero_add, List.nil_append] at hown3; have HO3 := Lib.hid hown3; have HG3 := Lib.hid hg3; have HL3 := Lib.hid hl3; clear hown3 hg3 hl3)
    go_ret
    refine ⟨v1, rfl, HO3.out, ((Frm.Turn.refl [] w).alloc _).trans (Frm.Turn.of_grown HG3.out) (fun k hk => ?_)⟩
    simp [Value.ownBlock] at hk; subst hk; right; omega
/-- What was found. -/
theorem places_any (h : CoAt W base r b C v) (hn : C.L.length ≤ 65536) :
    Calls Tryz.prog 126 #[.pointer (some ⟨r, 0, none⟩)] W fun e w' => ∃ u, e = .returned u ∧ w'.ownsRow W.heap.size 46 2 u C.L.length (plCells C.L) ∧ Frm.Turn [] W w' := by
  have c4 := h.body.cells.2.2.2.2
  obtain ⟨ao, c, hsl⟩ := Frm.row_form h.row
  have H := Lib.hid (pclone_any v C.L W h.row hn)
  rw [hsl] at H c4
  obtain ⟨n, hnn⟩ : ∃ n, n = C.L.length := ⟨_, rfl⟩
  rw [← hnn] at H c4 hn ⊢
  clear h hsl hnn
  go_enter Tryz.func126, Tryz.ntmps126
  go_wp2_with (go_at_call 147; (with_reducible refine (H.out).mono ?_); rintro e w1 ⟨u, rfl, ho, hT⟩; have HO := Lib.hid (And.intro ho hT); clear ho hT)
  go_ret
  exact ⟨u, rfl, HO.out⟩
theorem places_nil (W : World) : Calls Tryz.prog 126 #[.pointer none] W fun e w' => e = .returned (.slice none 0 0) ∧ W = w' := by
  go_enter Tryz.func126, Tryz.ntmps126
  go_wp2
  go_ret
  exact ⟨rfl, rfl⟩
/-- A collect that was just made. -/
theorem newO_any (b : Nat) (W : World) :
    Calls Tryz.prog 94 #[.pointer (some ⟨b, 0, none⟩)] W fun e w' => e = .returned (.pointer (some ⟨W.heap.size, 0, none⟩)) ∧ CoAt w' base W.heap.size b Co.new (.slice none 0 0) ∧ Frm.Turn [] W w' ∧ W.heap.size < w'.heap.size := by
  have h0 : CoBody (W.alloc (.cells #[.nilFunc, .pointer (some ⟨b, 0, none⟩), .int .u64 0, .int .u64 0, .int .u64 0, .int .u64 0, .int .u64 0, .int .u64 0, .int .u64 0, .int .u64 0, .int .i64 0, .int .i64 0, .slice none 0 0] 218)) W.heap.size b .nilFunc 0 0 0 (.slice none 0 0) := World.alloc_heap_new W _
  have H := Lib.hid (turnTo_any h0 0 (by omega))
  have e0 : ((0 : Nat) : Int) = 0 := rfl
  rw [e0] at H
  have HT := Lib.hid ((Frm.Turn.refl [] W).alloc (.cells #[.nilFunc, .pointer (some ⟨b, 0, none⟩), .int .u64 0, .int .u64 0, .int .u64 0, .int .u64 0, .int .u64 0, .int .u64 0, .int .u64 0, .int .u64 0, .int .i64 0, .int .i64 0, .slice none 0 0] 218))
  clear h0 e0
  go_enter Tryz.func94, Tryz.ntmps94
  go_wp2_with (go_at_call 122; (with_reducible refine (H.out).mono ?_); rintro e w1 ⟨rfl, hb, hT⟩; have HB := Lib.hid hb; have HT1 := Lib.hid hT; clear hb hT)
  go_ret
  refine ⟨rfl, ⟨HB.out, World.ownsRow_nil _ _ _ _, fun q hq => by cases hq⟩, HT.out.trans HT1.out (fun q hq => .inr (by simp at hq; omega)), HB.out.lt⟩
end ColB
end Go.Proofs.YtpajafecodkndaaGreat
