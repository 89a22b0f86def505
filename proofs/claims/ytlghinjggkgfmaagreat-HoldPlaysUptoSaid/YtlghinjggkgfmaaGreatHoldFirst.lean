/- first of law 14. -/
import Derived.Test.YtlghinjggkgfmaaGreatHoldLaw
import Derived.Great.BuildSlice
import Derived.Deep.CutBlock
set_option linter.unusedVariables false
set_option linter.unusedSimpArgs false
namespace Go.Proofs.YtlghinjggkgfmaaGreat
namespace Hld
open Go.RowKit Go.Maps Arn Pac Clm Cnt Sta

variable {w W W' : World} {b k n r : Nat} {A : Ar} {ps : List Part} {sg h rt ha hb : Int} {bw : List Int}
def w58 : List Int := [5, 6, 7, 8]
theorem w58_64 : ∀ v, v ∈ w58 → W64 v := by
  intro v hv
  simp [w58] at hv
  rcases hv with rfl | rfl | rfl | rfl <;> exact ⟨by omega, by omega⟩
def fR : Int := 137441050627
theorem four_words {W : World} {g : Nat} (h : W.heap[g]? = some (.cells #[.int .u64 5, .int .u64 6, .int .u64 7, .int .u64 8] 25 (0, 0))) : WordsAt W (.slice (some ⟨g, 0, none⟩) 4 4) w58 := by
  refine .inr ⟨⟨g, 0, none⟩, 4, rfl, fun j u hu => ?_⟩
  have e : (⟨g, 0, none⟩ : Addr).add j = ⟨g, j, none⟩ := by
    unfold Addr.add; split
    · rename_i e; simp [e]
    · simp
  rw [e, Frm.cell_row _ _ j _ _ _ h]
  have : j = 0 ∨ j = 1 ∨ j = 2 ∨ j = 3 ∨ 4 ≤ j := by omega
  rcases this with rfl | rfl | rfl | rfl | h4
  · exact hu
  · exact hu
  · exact hu
  · exact hu
  · rw [List.getElem?_eq_none (by simpa [u64s, w58] using h4)] at hu; cases hu
/-- The grip behind j of its steps. -/
def GS (w : World) (b rg : Nat) (ps : List Part) (j : Nat) (W : World) : Prop := ∃ A k ha hb, Stash w b A k (gpP rg b (gAt 65537 fR j) :: ps) W ∧ HV A 65537 131074 fR ha hb w58 ∧ k ≤ 20 + j ∧ (2 ≤ j → ha = 131074)
/-- The fetch behind j of its steps, under that root or another one. -/
def FS (w : World) (b rf : Nat) (ps : List Part) (j : Nat) (W : World) : Prop := ∃ A k hb v, Stash w b A k (feP rf b v (fAt 65537 fR 131074 w58 j) :: rwP w.heap.size v (fAt 65537 fR 131074 w58 j).ws :: ps) W ∧ HV A 65537 131074 fR 131074 hb w58 ∧ k ≤ 30 + j ∧ (1 ≤ j → hb = 131074)
theorem fR_top : fR / 1048576 = 131074 := by decide
theorem fR_64 : W64 fR := by unfold W64 fR; omega
theorem sg_64 : W64 65537 := by unfold W64; omega
theorem h_64 : W64 131074 := by unfold W64; omega
theorem gs_step {rg j : Nat} (H : GS w b rg ps j W) (hj : j < 3) : Calls Tryz.prog 45 #[.pointer (some ⟨rg, 0, none⟩)] W fun e w' => e = .returned (.tuple #[]) ∧ GS w b rg ps (j + 1) w' := by
  obtain ⟨A, k, ha, hb, S, V, hk, h2⟩ := H
  refine (gstep_h S (by omega) (gAt_fit (by omega) sg_64 fR_64 j)).mono ?_
  rintro e w' ⟨he, S'⟩
  obtain ⟨ha', V', es, e1, e2⟩ := gAt_step V hj
  rw [es] at S'
  refine ⟨he, _, _, ha', hb, S', V', by omega, fun h => ?_⟩
  by_cases e : j = 1
  · rw [e1 e, fR_top]
  · rw [e2 e]; exact h2 (by omega)
theorem fs_step {rf j : Nat} (H : FS w b rf ps j W) (hj : j < 6) : Calls Tryz.prog 50 #[.pointer (some ⟨rf, 0, none⟩)] W fun e w' => e = .returned (.tuple #[]) ∧ FS w b rf ps (j + 1) w' := by
  obtain ⟨A, k, hb, v, S, V, hk, h2⟩ := H
  refine (fstep_h S (by omega) (fAt_fit (by omega) sg_64 fR_64 h_64 w58_64 j) (by have := fAt_ws (sg := 65537) (rt := fR) (h := 131074) (bw := w58) j; have : w58.length = 4 := rfl; omega)).mono ?_
  rintro e w' ⟨he, v', S'⟩
  obtain ⟨hb', V', es, e1, e2⟩ := fAt_step V h_64 (by decide) (j := j) (by have : w58.length = 4 := rfl; omega)
  rw [es] at S'
  refine ⟨he, _, _, hb', v', S', V', by omega, fun h => ?_⟩
  by_cases e : j = 0
  · exact e1 e
  · rw [e2 e]; exact h2 (by omega)
/-- A fetch under another root: two steps. -/
theorem fk_step0 {rf : Nat} {v : Value} {hb : Int} (S : Stash w b A k (feP rf b v (Fe.new 65537 0 (fR + 1) 131074 4) :: rwP w.heap.size v [] :: ps) W) (V : HV A 65537 131074 fR 131074 hb w58) (hk : k ≤ 50) :
    Calls Tryz.prog 50 #[.pointer (some ⟨rf, 0, none⟩)] W fun e w' => e = .returned (.tuple #[]) ∧ ∃ A' v', Stash w b A' (k + 1) (feP rf b v' ⟨2, 65537, 0, fR + 1, 131074, 4, [], 0⟩ :: rwP w.heap.size v' [] :: ps) w' ∧ HV A' 65537 131074 fR 131074 131074 w58 := by
  refine (fstep_h (C := Fe.new 65537 0 (fR + 1) 131074 4) S (by omega) ⟨by show (65537 : Int) ≠ 0; omega, sg_64, by show 0 < 255; omega, h_64, by show W64 (fR + 1); unfold W64 fR; omega, by simp [Fe.new], by show (0 : Int) ≤ 0 ∧ (0 : Int) ≤ 2; omega⟩ (by simp [Fe.new])).mono ?_
  rintro e w' ⟨he, v', S'⟩
  have ew : 5 * ((ofN 0 : Nat) : Int) + 4 = 4 := by rw [of0]; rfl
  refine ⟨he, _, v', S', ?_⟩
  show HV (A.write 65537 (5 * ((ofN 0 : Nat) : Int) + 4) 131074).1 _ _ _ _ _ _
  rw [ew]
  exact V.putB h_64
theorem fk_step1 {rf : Nat} {v : Value} (S : Stash w b A k (feP rf b v ⟨2, 65537, 0, fR + 1, 131074, 4, [], 0⟩ :: rwP w.heap.size v [] :: ps) W) (V : HV A 65537 131074 fR 131074 131074 w58) (hk : k ≤ 50) :
    Calls Tryz.prog 50 #[.pointer (some ⟨rf, 0, none⟩)] W fun e w' => e = .returned (.tuple #[]) ∧ ∃ A' v', Stash w b A' (k + 1) (feP rf b v' ⟨0, 65537, 0, fR + 1, 131074, 4, [], 2⟩ :: rwP w.heap.size v' [] :: ps) w' ∧ HV A' 65537 131074 fR 131074 131074 w58 := by
  refine (fstep_h (C := ⟨2, 65537, 0, fR + 1, 131074, 4, [], 0⟩) S (by omega) ⟨by show (65537 : Int) ≠ 0; omega, sg_64, by show 0 < 255; omega, h_64, by show W64 (fR + 1); unfold W64 fR; omega, by simp, by show (0 : Int) ≤ 0 ∧ (0 : Int) ≤ 2; omega⟩ (by simp)).mono ?_
  rintro e w' ⟨he, v', S'⟩
  have es : (Fe.step ⟨2, 65537, 0, fR + 1, 131074, 4, [], 0⟩ A) = ((A.read 0 0).1, ⟨0, 65537, 0, fR + 1, 131074, 4, [], 2⟩) := by
    show ((A.read 0 0).1, if (A.read 0 0).2.1 = fR + 1 then _ else _) = _
    rw [V.root, if_neg (by dsimp only; unfold fR; omega)]
  rw [es] at S'
  exact ⟨he, _, v', S', V.read 0 0⟩
theorem ck_step {rc st : Nat} {hb : Int} {h2 : Int} (hst : st = 1 ∨ st = 2) (S : Stash w b A k (crP rc b ⟨st, 65537, 0⟩ :: ps) W) (V : HV A 65537 131074 fR h2 hb w58) (hk : k ≤ 50) :
    Calls Tryz.prog 56 #[.pointer (some ⟨rc, 0, none⟩)] W fun e w' => e = .returned (.tuple #[]) ∧ ∃ A', Stash w b A' (k + 1) (crP rc b ⟨if st = 1 then 2 else 0, 65537, 0⟩ :: ps) w' ∧ HV A' 65537 131074 fR (if st = 1 then 0 else h2) (if st = 1 then hb else 0) w58 := by
  refine (cstep_h S (by omega) ⟨by show (65537 : Int) ≠ 0; omega, sg_64, by show 0 < 255; omega⟩).mono ?_
  rintro e w' ⟨he, S'⟩
  have e3 : 5 * ((ofN 0 : Nat) : Int) + 3 = 3 := by rw [of0]; rfl
  have e4 : 5 * ((ofN 0 : Nat) : Int) + 4 = 4 := by rw [of0]; rfl
  rcases hst with rfl | rfl
  · refine ⟨he, _, S', ?_⟩
    show HV (A.write 65537 (5 * ((ofN 0 : Nat) : Int) + 3) 0).1 _ _ _ _ _ _
    rw [e3]
    exact V.putA w64_zero
  · refine ⟨he, _, S', ?_⟩
    show HV (A.write 65537 (5 * ((ofN 0 : Nat) : Int) + 4) 0).1 _ _ _ _ _ _
    rw [e4]
    exact V.putB w64_zero
set_option maxRecDepth 100000 in
set_option maxHeartbeats 4000000 in
theorem first14 (w : World) : Calls Tryz.prog 37 #[] w fun e w' => e = .returned (.bool true) ∧ Frm.Turn [] w w' := by
  have e1' : ((1 : Nat) : Int) = 1 := rfl
  have hsg := segs14 1 w w (Frm.Turn.refl [] w) (by omega) (by omega)
  rw [e1'] at hsg
  have HSG := Lib.hid hsg
  obtain ⟨fs, hfs⟩ := struct_of under_refA
  have HFS := Lib.hid hfs
  clear hsg hfs
  go_enter Tryz.func37, Tryz.ntmps37
  go_upto_region 2 with (first
    | (go_at_call 39; (with_reducible refine (HSG.out).mono ?_); rintro e w2 ⟨b, CS, G, kh, kc, ohs, A, k, rfl, y1, y2, y3, y4, y5, y6, y7, y8⟩; have HZZ1 := Lib.hid y1; have HZZ2 := Lib.hid y2; have HO := Lib.hid y3; have HQ := Lib.hid (And.intro y4 (And.intro y5 (And.intro y6 y7))); have HS2 := Lib.hid y8; clear y1 y2 y3 y4 y5 y6 y7 y8)
    | (refine wpList_store_row rfl 67 (.tmp 2) (.tmp 20) rfl w2.heap.size CS rfl rfl 67 _ (World.alloc_heap_new w2 _) (by rw [HZZ1.out]; exact info_refA) (by rw [HZZ1.out]; rfl) HZZ2.out ?_))
  generalize hw3 : World.setRow _ w2.heap.size CS = w3
  have HT3 : Hid (Frm.Turn [] w2 w3) := Lib.hid (by rw [← hw3]; exact setRow_turn ((Frm.Turn.refl [] w2).alloc _) (.inr (Nat.le_refl _)) CS)
  have HS3 := Lib.hid ((HS2.out.perm (List.Perm.swap ..)).drop.still HT3.out)
  have hk0 : w3.cell? ⟨kh, 0, none⟩ = some (.int .u64 65537) := (HO.out _ (HS3.out.on (bkP kh ohs) (by simp))) 0 (by omega)
  clear hw3 HSG HS2 HT3 HZZ1 HZZ2 HFS
  have HS4 := Lib.hid (add_h HS3.out (.cells #[.int .u64 65537, .int .i64 0] 83) (World.alloc_heap_new _ _))
  have HS5 := Lib.hid (add_h HS4.out (.cells #[.int .u64 5, .int .u64 6, .int .u64 7, .int .u64 8] 25) (World.alloc_heap_new _ _))
  rw [World.size_alloc] at HS5
  have HLY : Hid (Calls Tryz.prog 40 #[.pointer (some ⟨b, 0, none⟩), .slice (some ⟨w3.heap.size + 1, 0, none⟩) 4 4] ((w3.alloc (.cells #[.int .u64 65537, .int .i64 0] 83)).alloc (.cells #[.int .u64 5, .int .u64 6, .int .u64 7, .int .u64 8] 25)) fun e w' => e = .returned (.tuple #[.int .u64 131074, .int .i64 0]) ∧ ∃ A', Stash w b A' (k + 1) [bkP w3.heap.size (.cells #[.int .u64 65537, .int .i64 0] 83), bkP kh ohs] w' ∧ HV A' 65537 131074 (A.fixed.getD 0 0) 0 0 w58) := Lib.hid (by
    obtain ⟨q1, q2, q3, q4⟩ := HQ.out
    obtain ⟨v1, v2⟩ := hv_start (bw := w58) q2 q3 q4 (by decide) (by decide) w58_64
    refine (lay_h HS5.out (by omega) (four_words (HS5.out.on _ (List.mem_cons_self ..))) (fun q hq => ?_) w58_64).mono ?_
    · simp [Value.ownBlock] at hq; subst hq
      exact mem_feet (List.mem_cons_self ..) (in_own (by simp [bkP]))
    · rintro e w' ⟨he, hS⟩
      rw [v1] at he
      exact ⟨he, _, hS.drop, v2⟩)
  go_upto_region 4 with (go_at_call 40; (with_reducible refine (HLY.out).mono ?_); rintro e w6 ⟨rfl, A6, hS, hV⟩; have HS6 := Lib.hid hS; have HV6 := Lib.hid hV; clear hS hV)
  generalize w3.heap.size = pb at HS6 ⊢
  clear HLY HS5 HS4 HS3 hk0
  have HWR := Lib.hid (write_h HS6.out (by have := HQ.out.1; omega) 0 0 fR w64_zero (wf_small (by omega) (by omega)) fR_64)
  unfold fR at HWR
  go_upto_region 5 with (go_at_call 28; (with_reducible refine (HWR.out).mono ?_); rintro e w7 ⟨rfl, hS⟩; have HS7 := Lib.hid hS; have HV7 := Lib.hid (HV6.out.put0 fR_64); clear hS)
  have HV7 : Hid (HV (A6.write 0 0 137441050627).1 65537 131074 fR 0 0 w58) := HV7
  generalize (A6.write 0 0 137441050627).1 = A7 at HS7 HV7
  clear HWR HS6 HV6
  have p0 : w7.cell? ⟨pb, 0, none⟩ = some (.int .u64 65537) := (Frm.cell_row _ _ 0 _ _ _ (HS7.out.on (bkP pb (.cells #[.int .u64 65537, .int .i64 0] 83)) (by simp))).trans rfl
  have p1 : w7.cell? ⟨pb, 1, none⟩ = some (.int .i64 0) := (Frm.cell_row _ _ 1 _ _ _ (HS7.out.on (bkP pb (.cells #[.int .u64 65537, .int .i64 0] 83)) (by simp))).trans rfl
  have HNG := Lib.hid (gnew_h HS7.out 65537 0)
  have HNG : Hid (Calls Tryz.prog 42 #[.pointer (some ⟨b, 0, none⟩), .agg #[.int .u64 65537, .int .i64 0]] w7 _) := HNG
  go_upto_region 6 with (go_at_call 42; (with_reducible refine (HNG.out).mono ?_); rintro e w8 ⟨rg, rfl, hS⟩; have HG8 : Hid (GS w b rg [bkP pb (.cells #[.int .u64 65537, .int .i64 0] 83), bkP kh ohs] 0 w8) := Lib.hid ⟨A7, _, 0, 0, hS, HV7.out, by have := HQ.out.1; omega, by omega⟩; clear hS)
  clear HNG HS7 HV7 p0 p1
  go_wp2_with fail
  go_loopw [41] (fun i wr => ∃ j : Nat, j ≤ 3 ∧ i = .int .i64 j ∧ GS w b rg [bkP pb (.cells #[.int .u64 65537, .int .i64 0] 83), bkP kh ohs] j wr) (fun i _ => 3 - (intOf i).toNat)
  case atStart => exact ⟨0, Nat.zero_le _, rfl, HG8.out⟩
  case round =>
    obtain ⟨j, hj, rfl, hrel⟩ := hrel
    clear HG8
    by_cases hlt : j < 3
    · have HST := Lib.hid (gs_step hrel hlt)
      have hj1 : (j : Int) < 3 := by omega
      clear hrel
      go_wp2_with (go_at_call 45; (with_reducible refine (HST.out).mono ?_); rintro e w9 ⟨rfl, hg⟩; have HG9 := Lib.hid hg; clear hg)
      refine ⟨⟨j + 1, by omega, by simp, HG9.out⟩, ?_⟩
      simp [intOf]; omega
    · obtain rfl : j = 3 := by omega
      have hj3 : ¬ ((3 : Nat) : Int) < 3 := by omega
      obtain ⟨A9, k9, ha9, hb9, hS, hV, hk9, hha⟩ := hrel
      obtain rfl := hha (by omega)
      have HS9 := Lib.hid hS
      have HV9 := Lib.hid hV
      have HK9 := Lib.hid hk9
      clear hS hV hk9 hha hlt hj
      have HD := Lib.hid ((Frm.Turn.refl [] wr).drew)
      have HRT := Lib.hid (groot_h (HS9.out.still HD.out) (List.mem_cons_self ..))
      have HRT : Hid (Calls Tryz.prog 47 #[.pointer (some ⟨rg, 0, none⟩)] wr.drew fun e w' => e = .returned (.int .u64 fR) ∧ wr.drew = w') := HRT
      have HNF := Lib.hid (fnew_h (HS9.out.still HD.out) 65537 0 fR 131074 4)
      have HNF : Hid (Calls Tryz.prog 43 #[.pointer (some ⟨b, 0, none⟩), .agg #[.int .u64 65537, .int .i64 0], .int .u64 fR, .int .u64 131074, .int .i64 4] wr.drew _) := HNF
      have p0 : wr.drew.cell? ⟨pb, 0, none⟩ = some (.int .u64 65537) := (Frm.cell_row _ _ 0 _ _ _ ((HS9.out.still HD.out).on (bkP pb (.cells #[.int .u64 65537, .int .i64 0] 83)) (by simp))).trans rfl
      have p1 : wr.drew.cell? ⟨pb, 1, none⟩ = some (.int .i64 0) := (Frm.cell_row _ _ 1 _ _ _ ((HS9.out.still HD.out).on (bkP pb (.cells #[.int .u64 65537, .int .i64 0] 83)) (by simp))).trans rfl
      go_upto_region 10 with fail
      go_cut [8] (fun s8 W2 => ∃ rf, s8 = .pointer (some ⟨rf, 0, none⟩) ∧ FS w b rf [gpP rg b (gAt 65537 fR 3), bkP pb (.cells #[.int .u64 65537, .int .i64 0] 83), bkP kh ohs] 0 W2)
      case first =>
        go_region_with (first
          | (go_at_call 47; (with_reducible refine (HRT.out).mono ?_); rintro e w10 ⟨rfl, rfl⟩)
          | (go_at_call 43; (with_reducible refine (HNF.out).mono ?_); rintro e w11 ⟨rf, rfl, hS⟩; have HS11 := Lib.hid hS; clear hS))
        all_goals go_wp2_with fail
        all_goals go_meet
        all_goals exact ⟨rf, rfl, _, _, _, _, HS11.out, HV9.out, by have := HK9.out; omega, by omega⟩
      case rest =>
        obtain ⟨rf, rfl, hF⟩ := hcut
        have HF0 := Lib.hid hF
        clear HS9 HV9 HK9 HD HRT HNF p0 p1 hF
        obtain ⟨PS, HPS⟩ : ∃ PS, Hid (PS = [gpP rg b (gAt 65537 fR 3), bkP pb (.cells #[.int .u64 65537, .int .i64 0] 83), bkP kh ohs]) := ⟨_, Lib.hid rfl⟩
        rw [← HPS.out] at HF0
        go_wp2_with fail
        go_loopw [52] (fun i wz => ∃ j : Nat, j ≤ 6 ∧ i = .int .i64 j ∧ FS w b rf PS j wz) (fun i _ => 6 - (intOf i).toNat)
        case atStart => exact ⟨0, Nat.zero_le _, rfl, HF0.out⟩
        case round =>
          obtain ⟨j, hj, rfl, hrel⟩ := hrel
          clear HF0
          by_cases hlt : j < 6
          · have HST := Lib.hid (fs_step hrel hlt)
            have hj1 : (j : Int) < 6 := by omega
            clear hrel
            go_wp2_with (go_at_call 50; (with_reducible refine (HST.out).mono ?_); rintro e w9 ⟨rfl, hg⟩; have HG9 := Lib.hid hg; clear hg)
            refine ⟨⟨j + 1, by omega, by simp, HG9.out⟩, ?_⟩
            simp [intOf]; omega
          · obtain rfl : j = 6 := by omega
            have hj6 : ¬ ((6 : Nat) : Int) < 6 := by omega
            obtain ⟨A9, k9, hb9, v9, hS, hV, hk9, hhb⟩ := hrel
            obtain rfl := hhb (by omega)
            have HS9 := Lib.hid hS
            have HV9 := Lib.hid hV
            have HK9 : Hid (k9 ≤ 36) := Lib.hid hk9
            clear hS hV hk9 hhb hlt hj
            have hkc : wr.cell? ⟨kh, 0, none⟩ = some (.int .u64 65537) := (HO.out _ (HS9.out.on (bkP kh ohs) (by rw [HPS.out]; simp))) 0 (by omega)
            have hrd := read_h HS9.out (by have := HK9.out; omega) 65537 3 sg_64 (wf_small (by omega) (by omega))
            rw [HV9.out.holdA] at hrd
            have HRD := Lib.hid hrd
            clear hrd
            go_upto_region 16 with (go_at_call 95; (with_reducible refine (HRD.out).mono ?_); rintro e w10 ⟨rfl, hS⟩; have HS10 := Lib.hid hS; have HV10 := Lib.hid (HV9.out.read 65537 3); clear hS)
            clear HS9 HV9 HRD hkc
            have hkc : w10.cell? ⟨kh, 0, none⟩ = some (.int .u64 65537) := (HO.out _ (HS10.out.on (bkP kh ohs) (by rw [HPS.out]; simp))) 0 (by omega)
            have hrd := read_h HS10.out (by have := HK9.out; omega) 65537 4 sg_64 (wf_small (by omega) (by omega))
            rw [HV10.out.holdB] at hrd
            have HRD := Lib.hid hrd
            clear hrd
            go_upto_region 17 with (go_at_call 95; (with_reducible refine (HRD.out).mono ?_); rintro e w11 ⟨rfl, hS⟩; have HS11 := Lib.hid hS; have HV11 := Lib.hid (HV10.out.read 65537 4); clear hS)
            clear HS10 HV10 HRD hkc
            generalize ((A9.read 65537 3).1.read 65537 4).1 = A11 at HS11 HV11
            have HD := Lib.hid ((Frm.Turn.refl [] w11).drew)
            have HSD := Lib.hid (HS11.out.still HD.out)
            have HRT := Lib.hid (groot_h (r := rg) (C := gAt 65537 fR 3) (g := nxG rg (gAt 65537 fR 3).st) HSD.out (by rw [HPS.out]; exact List.mem_cons_of_mem _ (List.mem_cons_of_mem _ (List.mem_cons_self ..))))
            have HRT : Hid (Calls Tryz.prog 47 #[.pointer (some ⟨rg, 0, none⟩)] w11.drew fun e w' => e = .returned (.int .u64 137441050627) ∧ w11.drew = w') := HRT
            have HNF := Lib.hid (fnew_h HSD.out 65537 0 (fR + 1) 131074 4)
            have HNF : Hid (Calls Tryz.prog 43 #[.pointer (some ⟨b, 0, none⟩), .agg #[.int .u64 65537, .int .i64 0], .int .u64 (IntKind.u64.wrap 137441050628), .int .u64 131074, .int .i64 4] w11.drew _) := HNF
            have p0 : w11.drew.cell? ⟨pb, 0, none⟩ = some (.int .u64 65537) := (Frm.cell_row _ _ 0 _ _ _ (HSD.out.on (bkP pb (.cells #[.int .u64 65537, .int .i64 0] 83)) (by rw [HPS.out]; simp))).trans rfl
            have p1 : w11.drew.cell? ⟨pb, 1, none⟩ = some (.int .i64 0) := (Frm.cell_row _ _ 1 _ _ _ (HSD.out.on (bkP pb (.cells #[.int .u64 65537, .int .i64 0] 83)) (by rw [HPS.out]; simp))).trans rfl
            obtain ⟨QS, HQS⟩ : ∃ QS, Hid (QS = feP rf b v9 (fAt 65537 fR 131074 w58 6) :: rwP w.heap.size v9 (fAt 65537 fR 131074 w58 6).ws :: PS) := ⟨_, Lib.hid rfl⟩
            go_cut [13] (fun s13 W2 => ∃ rk, s13 = .pointer (some ⟨rk, 0, none⟩) ∧ ∃ v, Stash w b A11 (k9 + 1 + 1) (feP rk b v (Fe.new 65537 0 (fR + 1) 131074 4) :: rwP w.heap.size v [] :: QS) W2)
            case first =>
              go_region_with (first
                | (go_at_call 47; (with_reducible refine (HRT.out).mono ?_); rintro e w10 ⟨rfl, rfl⟩)
                | (go_at_call 43; (with_reducible refine (HNF.out).mono ?_); rintro e w12 ⟨rk, rfl, hS⟩; have HS12 := Lib.hid hS; clear hS))
              all_goals go_wp2_with fail
              all_goals go_meet
              all_goals exact ⟨rk, rfl, _, by rw [HQS.out]; exact HS12.out⟩
            case rest =>
              obtain ⟨rk, rfl, vk, hF⟩ := hcut
              have HSK := Lib.hid hF
              clear HS11 HD HSD HRT HNF p0 p1 hF
              have HST0 := Lib.hid (fk_step0 HSK.out HV11.out (by have := HK9.out; omega))
              go_upto_region 19 with (go_at_call 50; (with_reducible refine (HST0.out).mono ?_); rintro e w13 ⟨rfl, A13, v13, hS, hV⟩; have HV13 := Lib.hid hV; have HS13 := Lib.hid hS; have HST1 := Lib.hid (fk_step1 hS hV (by have := HK9.out; omega)); clear hS hV)
              clear HST0 HSK HV11
              go_upto_region 20 with (go_at_call 50; (with_reducible refine (HST1.out).mono ?_); rintro e w14 ⟨rfl, A14, v14, hS, hV⟩; have HV14 := Lib.hid hV; have HS14 := Lib.hid hS; clear hS hV)
              clear HST1 HS13 HV13
              have p0 : w14.cell? ⟨pb, 0, none⟩ = some (.int .u64 65537) := (Frm.cell_row _ _ 0 _ _ _ (HS14.out.on (bkP pb (.cells #[.int .u64 65537, .int .i64 0] 83)) (by rw [HQS.out, HPS.out]; simp))).trans rfl
              have p1 : w14.cell? ⟨pb, 1, none⟩ = some (.int .i64 0) := (Frm.cell_row _ _ 1 _ _ _ (HS14.out.on (bkP pb (.cells #[.int .u64 65537, .int .i64 0] 83)) (by rw [HQS.out, HPS.out]; simp))).trans rfl
              have HNC := Lib.hid (cnew_h HS14.out 65537 0)
              have HNC : Hid (Calls Tryz.prog 44 #[.pointer (some ⟨b, 0, none⟩), .agg #[.int .u64 65537, .int .i64 0]] w14 _) := HNC
              go_upto_region 21 with (go_at_call 44; (with_reducible refine (HNC.out).mono ?_); rintro e w15 ⟨rc, rfl, hS⟩; have HS15 := Lib.hid hS; have HST2 := Lib.hid (ck_step (.inl rfl) hS HV14.out (by have := HK9.out; omega)); clear hS)
              clear HNC HS14 p0 p1
              go_upto_region 22 with (go_at_call 56; (with_reducible refine (HST2.out).mono ?_); rintro e w16 ⟨rfl, A16, hS, hV⟩; have HV16 := Lib.hid hV; have HS16 := Lib.hid hS; have HST3 := Lib.hid (ck_step (.inr rfl) hS hV (by have := HK9.out; omega)); clear hS hV)
              clear HST2 HS15 HV14
              go_upto_region 23 with (go_at_call 56; (with_reducible refine (HST3.out).mono ?_); rintro e w17 ⟨rfl, A17, hS, hV⟩; have HV17 : Hid (HV A17 65537 131074 fR 0 0 w58) := Lib.hid hV; have HS17 : Hid (Stash w b A17 _ (crP rc b ⟨0, 65537, 0⟩ :: _) w17) := Lib.hid hS; clear hS hV)
              clear HST3 HS16 HV16
              have hkc : w17.cell? ⟨kh, 0, none⟩ = some (.int .u64 65537) := (HO.out _ (HS17.out.on (bkP kh ohs) (by rw [HQS.out, HPS.out]; simp))) 0 (by omega)
              have hrd := read_h HS17.out (by have := HK9.out; omega) 65537 4 sg_64 (wf_small (by omega) (by omega))
              rw [HV17.out.holdB] at hrd
              have HRD := Lib.hid hrd
              clear hrd
              go_upto_region 24 with (go_at_call 95; (with_reducible refine (HRD.out).mono ?_); rintro e w18 ⟨rfl, hS⟩; have HS18 := Lib.hid hS; clear hS)
              have hmg : gpP rg b (gAt 65537 fR 3) ∈ crP rc b ⟨0, 65537, 0⟩ :: feP rk b v14 ⟨0, 65537, 0, fR + 1, 131074, 4, [], 2⟩ :: rwP w.heap.size v14 [] :: QS := by rw [HQS.out, HPS.out]; simp
              have hmf' : feP rf b v9 (fAt 65537 fR 131074 w58 6) ∈ crP rc b ⟨0, 65537, 0⟩ :: feP rk b v14 ⟨0, 65537, 0, fR + 1, 131074, 4, [], 2⟩ :: rwP w.heap.size v14 [] :: QS := by rw [HQS.out]; simp
              have hmw : rwP w.heap.size v9 (fAt 65537 fR 131074 w58 6).ws ∈ crP rc b ⟨0, 65537, 0⟩ :: feP rk b v14 ⟨0, 65537, 0, fR + 1, 131074, 4, [], 2⟩ :: rwP w.heap.size v14 [] :: QS := by rw [HQS.out]; simp
              have hmk' : feP rk b v14 ⟨0, 65537, 0, fR + 1, 131074, 4, [], 2⟩ ∈ crP rc b ⟨0, 65537, 0⟩ :: feP rk b v14 ⟨0, 65537, 0, fR + 1, 131074, 4, [], 2⟩ :: rwP w.heap.size v14 [] :: QS := by simp
              have G1 : Hid (∀ W, Frm.Turn [] w18 W → Calls Tryz.prog 49 #[.pointer (some ⟨rg, 0, none⟩)] W fun e w' => e = .returned (.bool true) ∧ W = w') := Lib.hid (fun W hT => gdone_g (HS18.out.still hT) hmg (by decide))
              have G2 : Hid (∀ W, Frm.Turn [] w18 W → Calls Tryz.prog 48 #[.pointer (some ⟨rg, 0, none⟩)] W fun e w' => e = .returned (.int .i64 1) ∧ W = w') := Lib.hid (fun W hT => gout_h (HS18.out.still hT) hmg)
              have G3 : Hid (∀ W, Frm.Turn [] w18 W → Calls Tryz.prog 47 #[.pointer (some ⟨rg, 0, none⟩)] W fun e w' => e = .returned (.int .u64 137441050627) ∧ W = w') := Lib.hid (fun W hT => groot_h (HS18.out.still hT) hmg)
              have F1 : Hid (∀ W, Frm.Turn [] w18 W → Calls Tryz.prog 55 #[.pointer (some ⟨rf, 0, none⟩)] W fun e w' => e = .returned (.bool true) ∧ W = w') := Lib.hid (fun W hT => fdone_h (HS18.out.still hT) hmf' (by decide))
              have F2 : Hid (∀ W, Frm.Turn [] w18 W → Calls Tryz.prog 54 #[.pointer (some ⟨rf, 0, none⟩)] W fun e w' => e = .returned (.int .i64 1) ∧ W = w') := Lib.hid (fun W hT => fout_h (HS18.out.still hT) hmf')
              have F3 : Hid (∀ W, Frm.Turn [] w18 W → Calls Tryz.prog 53 #[.pointer (some ⟨rf, 0, none⟩)] W (WClone W w58)) := Lib.hid (fun W hT => fwords_h (HS18.out.still hT) hmf' hmw (by decide))
              have K1 : Hid (∀ W, Frm.Turn [] w18 W → Calls Tryz.prog 55 #[.pointer (some ⟨rk, 0, none⟩)] W fun e w' => e = .returned (.bool true) ∧ W = w') := Lib.hid (fun W hT => fdone_h (HS18.out.still hT) hmk' (by decide))
              have K2 : Hid (∀ W, Frm.Turn [] w18 W → Calls Tryz.prog 54 #[.pointer (some ⟨rk, 0, none⟩)] W fun e w' => e = .returned (.int .i64 2) ∧ W = w') := Lib.hid (fun W hT => fout_h (HS18.out.still hT) hmk')
              have C1 : Hid (∀ W, Frm.Turn [] w18 W → Calls Tryz.prog 58 #[.pointer (some ⟨rc, 0, none⟩)] W fun e w' => e = .returned (.bool true) ∧ W = w') := Lib.hid (fun W hT => cdone_h (HS18.out.still hT) (List.mem_cons_self ..) (by decide))
              have HTW := Lib.hid HS18.out.kin.turn
              have HT0 := Lib.hid (Frm.Turn.refl [] w18)
              clear HS17 HV17 HRD hkc HS18 hmg hmf' hmw hmk'
              go_wp2_with (first
                | (go_at_call 49; (with_reducible refine (G1.out _ HT0.out).mono ?_); rintro e w19 ⟨rfl, rfl⟩)
                | (go_at_call 48; (with_reducible refine (G2.out _ HT0.out).mono ?_); rintro e w19 ⟨rfl, rfl⟩)
                | (go_at_call 47; (with_reducible refine (G3.out _ HT0.out).mono ?_); rintro e w19 ⟨rfl, rfl⟩)
                | (go_at_call 55; (with_reducible refine (K1.out _ HT21.out).mono ?_); rintro e w19 ⟨rfl, rfl⟩)
                | (go_at_call 54; (with_reducible refine (K2.out _ HT21.out).mono ?_); rintro e w19 ⟨rfl, rfl⟩)
                | (go_at_call 55; (with_reducible refine (F1.out _ HT0.out).mono ?_); rintro e w19 ⟨rfl, rfl⟩)
                | (go_at_call 54; (with_reducible refine (F2.out _ HT0.out).mono ?_); rintro e w19 ⟨rfl, rfl⟩)
                | (go_at_call 53; (with_reducible refine (F3.out _ HT0.out).mono ?_); rintro e w20 ⟨ao, ac, rfl, hws, -, hT⟩; have HTB := Lib.hid (hT.alloc (.cells #[.int .u64 5, .int .u64 6, .int .u64 7, .int .u64 8] 25)); have HAL := Lib.hid (words_alike (hws.turn ((Frm.Turn.refl [] w20).alloc (.cells #[.int .u64 5, .int .u64 6, .int .u64 7, .int .u64 8] 25)) (by simp)) (four_words (World.alloc_heap_new w20 (.cells #[.int .u64 5, .int .u64 6, .int .u64 7, .int .u64 8] 25))) (by decide)); clear hws hT)
                | (go_at_call 52; (with_reducible refine (HAL.out).mono ?_); rintro e w21 ⟨rfl, hT⟩; have HT21 := Lib.hid (HTB.out.trans hT (by simp)); clear hT)
                | (go_at_call 58; (with_reducible refine (C1.out _ HT21.out).mono ?_); rintro e w19 ⟨rfl, rfl⟩))
              go_ret
              exact ⟨rfl, HTW.out.trans HT21.out (by simp)⟩
end Hld
end Go.Proofs.YtlghinjggkgfmaaGreat
