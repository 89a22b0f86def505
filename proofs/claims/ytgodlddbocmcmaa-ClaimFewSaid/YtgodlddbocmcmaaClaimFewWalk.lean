/- The walk of ClaimFew. -/
import Derived.Test.YtgodlddbocmcmaaClaimFewMem
import Derived.Test.YtgodlddbocmcmaaClaimRowsWalk
import Derived.Deep.CutBlock
import Derived.Deep.RegionHeld3
import Derived.Deep.QuietTactic
import Derived.BigQuiet
import Derived.Deep.DeepCutAuto
set_option linter.unusedVariables false
set_option linter.unusedSimpArgs false
namespace Go.Proofs.Ytgodlddbocmcmaa
namespace Clm
open Go.RowKit Go.Maps Arn Pac

theorem under_cls : Try.prog.underlying 28 = some (.slice 30) := by kernel_rfl
theorem info_cls : (Try.prog.info? 30).map (fun i => (i.zero, i.size, i.bytes)) = some (some (.pointer none), 1, 8) := by kernel_rfl
theorem under_intss : Try.prog.underlying 29 = some (.slice 3) := by kernel_rfl
theorem info_ints : (Try.prog.info? 3).map (fun i => (i.zero, i.size, i.bytes)) = some (some (.int .i64 0), 1, 8) := by kernel_rfl
theorem made_cls (n : Nat) (hn : n ≤ 60000) (w : World) : (Instr.makeSlice 28 (.int .i64 (n : Int)) (.int .i64 (n : Int))).run Try.prog w = .ok (.slice (some ⟨w.heap.size, 0, none⟩) n n) (w.alloc (.cells (madeCells #[.pointer none] n) 30)) := by
  obtain ⟨i, h1, h2, h3, h4⟩ := info_parts info_cls
  have hr := run_make (P := Try.prog) w 28 30 i (.pointer none) under_cls h1 h2 .i64 .i64 n n (by omega) (by omega) (by rw [h4]; omega) (by omega)
  simp only [Int.toNat_natCast, h3, Nat.mul_one] at hr
  exact hr
theorem made_ints (n : Nat) (hn : n ≤ 60000) (w : World) : (Instr.makeSlice 29 (.int .i64 (n : Int)) (.int .i64 (n : Int))).run Try.prog w = .ok (.slice (some ⟨w.heap.size, 0, none⟩) n n) (w.alloc (.cells (madeCells #[.int .i64 0] n) 3)) := by
  obtain ⟨i, h1, h2, h3, h4⟩ := info_parts info_ints
  have hr := run_make (P := Try.prog) w 29 3 i (.int .i64 0) under_intss h1 h2 .i64 .i64 n n (by omega) (by omega) (by rw [h4]; omega) (by omega)
  simp only [Int.toNat_natCast, h3, Nat.mul_one] at hr
  exact hr
theorem cells_ints (n : Nat) : madeCells #[.int .i64 0] n = (ints (fun _ => 0) n).toArray := by
  apply Array.toList_inj.1
  rw [toList_madeCells_one]
  simp only [ints]
  apply List.ext_getElem?
  intro j
  by_cases h : j < n <;> simp [h]
theorem cells_ptrs (n : Nat) (rr : Nat → Nat) : madeCells #[.pointer none] n = (ptrs rr (fun _ => none) n).toArray := by
  apply Array.toList_inj.1
  rw [toList_madeCells_one]
  simp only [ptrs]
  apply List.ext_getElem?
  intro j
  by_cases h : j < n <;> simp [h]
/-- Two rows of noughts. -/
def TwoRows (n : Nat) (W : World) (v u : Value) (W' : World) : Prop :=
  ∃ mb tb, v = .slice (some ⟨mb, 0, none⟩) n n ∧ u = .slice (some ⟨tb, 0, none⟩) n n ∧ mb ≠ tb ∧ W.heap.size ≤ mb ∧ W.heap.size ≤ tb ∧ W'.heap[mb]? = some (.cells (ints (fun _ => 0) n).toArray 3 (0, 0)) ∧ W'.heap[tb]? = some (.cells (ints (fun _ => 0) n).toArray 3 (0, 0)) ∧ Frm.Turn [] W W'
theorem two_rows (n : Nat) (W : World) : True ∧ (∀ a b, a = W.heap.size → b = W.heap.size + 1 → TwoRows n W (.slice (some ⟨a, 0, none⟩) n n) (.slice (some ⟨b, 0, none⟩) n n) (((W.alloc (.cells (madeCells #[.int .i64 0] n) 3)).alloc (.cells (madeCells #[.int .i64 0] n) 3)).drew) ∧
    TwoRows n W (.slice (some ⟨b, 0, none⟩) n n) (.slice (some ⟨a, 0, none⟩) n n) (((W.alloc (.cells (madeCells #[.int .i64 0] n) 3)).alloc (.cells (madeCells #[.int .i64 0] n) 3)).drew)) := by
  refine ⟨trivial, fun a b ha hb => ?_⟩
  subst ha hb
  have e1 := World.alloc_heap_new W (.cells (madeCells #[.int .i64 0] n) 3)
  have e2 := World.alloc_heap_new (W.alloc (.cells (madeCells #[.int .i64 0] n) 3)) (.cells (madeCells #[.int .i64 0] n) 3)
  rw [World.size_alloc] at e2
  have hT : Frm.Turn [] W (((W.alloc (.cells (madeCells #[.int .i64 0] n) 3)).alloc (.cells (madeCells #[.int .i64 0] n) 3)).drew) := (((Frm.Turn.refl [] W).alloc _).alloc _).drew
  have e1' := ((Frm.Turn.refl [] (W.alloc (.cells (madeCells #[.int .i64 0] n) 3))).alloc (.cells (madeCells #[.int .i64 0] n) 3)).keep e1 (by simp)
  rw [cells_ints] at e1' e2 hT ⊢
  exact ⟨⟨_, _, rfl, rfl, by omega, by omega, by omega, e1', e2, hT⟩, ⟨_, _, rfl, rfl, by omega, by omega, by omega, e2, e1', hT⟩⟩
/-- Between two picks. -/
def FewRel (w : World) (b lb mb tb n : Nat) (j : Nat) (W : World) : Prop :=
  ∃ rr A k h own c most tried, FewAt w b lb mb tb n rr A k h own c most tried W ∧ k ≤ 2 * j ∧ Few own c n most tried
/-- Behind the switch: the numbers of the most are still to be brought up to date. -/
def MidRel (w : World) (b lb mb tb n : Nat) (j : Nat) (W : World) : Prop :=
  ∃ rr A k h own c most tried, FewAt w b lb mb tb n rr A k h own c most tried W ∧ k ≤ 2 * (j + 1) ∧ Few own c n (mosts c n most) tried
theorem MidRel.step {w W W' : World} {b lb mb tb n j : Nat} (h : MidRel w b lb mb tb n j W) (ht : Frm.Turn [] W W') : MidRel w b lb mb tb n j W' := by
  obtain ⟨rr, A, k, hh, own, c, most, tried, F, h1, h2⟩ := h
  exact ⟨rr, A, k, hh, own, c, most, tried, F.step ht, h1, h2⟩
set_option maxRecDepth 100000 in
set_option maxHeartbeats 4000000 in
theorem few_any (q : Nat) (gv : Value) (gs : List Int) (w : World) (hq : q < 256) (hg : U8At w gv gs) (hgs : ∀ u, u ∈ gs → 0 ≤ u ∧ u < 256) (hgl : gs.length ≤ 9223372036854775807) :
    Calls Try.prog 3 #[.int .u8 q, gv] w fun e w' => e = .returned (.bool true) ∧ Frm.Turn [] w w' := by
  have HF : Hid (Calls Try.prog 5 #[] w fun e w' => e = .returned (.bool true) ∧ Frm.Turn [] w w') := Lib.hid (first_any w)
  have HN : Hid (∀ W, Frm.Turn [] w W → Calls Try.prog 6 #[.int .i64 60000] W fun e w' => ∃ b, e = .returned (.tuple #[.pointer (some ⟨b, 0, none⟩), .int .i64 0]) ∧ Kin w b [] (Ar.new 60000) 0 w') :=
    Lib.hid fun W hT => (sin_new 60000 W (by omega)).mono fun e w' ⟨b, M, he, h2⟩ => ⟨b, he, M, ⟨h2.at_, fun k hk => Nat.le_trans hT.size (h2.new k hk), hT.trans h2.turn (by simp), h2.low, h2.born⟩, by simp⟩
  obtain ⟨cnt, HC⟩ : ∃ c : Nat, Hid (c = 2 + q % 12) := ⟨_, Lib.hid rfl⟩
  have e1 : (2 + (q : Int) % 12) = (cnt : Int) := by rw [HC.out]; omega
  have hc1 : 2 ≤ cnt := by rw [HC.out]; omega
  have hc2 : cnt ≤ 13 := by rw [HC.out]; omega
  obtain ⟨gl, HGL⟩ : ∃ x : Nat, Hid (x = gs.length) := ⟨_, Lib.hid rfl⟩
  obtain ⟨ga, gc, hgv⟩ : ∃ ga gc, gv = .slice ga gl gc := by
    rcases hg with ⟨rfl, e⟩ | ⟨a, c, rfl, _, _⟩
    · exact ⟨none, 0, by rw [HGL.out, e]; rfl⟩
    · exact ⟨_, _, by rw [HGL.out]⟩
  subst hgv
  have HBY : Hid (BytesAt w (.slice ga gl gc) gl) := Lib.hid (by
    rcases hg with ⟨e, e2⟩ | ⟨a, c, e, _, hcl⟩
    · exact ⟨⟨_, _, rfl⟩, .inl (by rw [HGL.out, e2]; rfl)⟩
    · cases e
      have := bytes_of (c := gc) hcl hgs (Nat.le_refl _)
      rw [← HGL.out] at this
      exact this)
  rw [← HGL.out] at hgl
  clear hg hgs HGL hq
  have hm1 := made_cls cnt (by omega)
  have hm2 := made_ints cnt (by omega)
  have HC1 := Lib.hid hc1
  have HC2 := Lib.hid hc2
  by_cases hbig : 800 < gl
  · have hbig' : (800 : Int) < (gl : Int) := by omega
    go_enter Try.func3, Try.ntmps3
    go_wp2_with (first
      | (go_at_call 5; (with_reducible refine (HF.out).mono ?_); rintro e w1 ⟨rfl, hT⟩; have HT1 := Lib.hid hT; clear hT))
    go_ret
    exact ⟨rfl, HT1.out⟩
  · have hbig' : (gl : Int) ≤ 800 := by omega
    go_enter Try.func3, Try.ntmps3
    go_upto_region 7 with (first
      | (go_at_call 5; (with_reducible refine (HF.out).mono ?_); rintro e w1 ⟨rfl, hT⟩; have HT1 := Lib.hid hT; clear hT)
      | (go_at_call 6; (with_reducible refine (HN.out _ HT1.out).mono ?_); rintro e w2 ⟨b, rfl, h⟩; have HK := Lib.hid h; clear h))
    go_upto_region 8 with fail
    have hl3 := World.alloc_heap_new w2 (.cells (madeCells #[.pointer none] cnt) 30)
    have HK3 := Lib.hid (HK.out.add (((Frm.Turn.refl [] w2)).alloc (.cells (madeCells #[.pointer none] cnt) 30)) (Nat.le_refl _) (by simp))
    generalize hlb : w2.heap.size = lb at hl3 HK3 ⊢
    generalize w2.alloc (.cells (madeCells #[.pointer none] cnt) 30) = w3 at hl3 HK3 ⊢
    have HL3 := Lib.hid hl3
    have HLB := Lib.hid (show w.heap.size ≤ lb by have := HK.out.turn.size; omega)
    have HTR := Lib.hid (two_rows cnt w3)
    clear hl3 hlb e1
    go_cut [9, 10] (fun s9 s10 W2 => TwoRows cnt w3 s9 s10 W2)
    case first =>
      go_region
      all_goals go_wp2_with fail
      all_goals go_meet
      all_goals first
        | exact (HTR.out.2 _ _ rfl rfl).1
        | exact (HTR.out.2 _ _ rfl rfl).2
    case rest =>
      obtain ⟨mb, tb, rfl, rfl, t1, t2, t3, t4, t5, t6⟩ := hcut
      have hst : FewRel w b lb mb tb cnt 0 wc := by
        have k1 := (Array.getElem?_eq_some_iff.1 t4).1
        have k2 := (Array.getElem?_eq_some_iff.1 t5).1
        have k3 := HLB.out
        have k4 := HK3.out.turn.size
        refine ⟨fun _ => lb, Ar.new 60000, 0, fun _ => 0, fun _ => 0, fun _ => none, fun _ => 0, fun _ => 0, ⟨HK3.out.adds t6 (fun q hq => ?_), inv_new (by omega) cnt, rfl, ?_, t4, t5, fun i C _ hC => (by cases hC), ⟨k3, by omega, by omega⟩, t1⟩, Nat.le_refl _, few_none cnt⟩
        · simp only [keep, List.mem_cons, List.mem_map, List.mem_range] at hq
          rcases hq with rfl | rfl | rfl | ⟨_, _, rfl⟩
          · exact .inl (by simp)
          · exact .inr ⟨t2, k1⟩
          · exact .inr ⟨t3, k2⟩
          · exact .inl (by simp)
        · rw [← cells_ptrs]; exact t6.keep HL3.out (by simp)
      clear t1 t2 t3 t4 t5 t6 HTR HK3 HL3 hm1 HF HN HK
      go_wp2_with fail
      go_loopw [48] (fun i wr => ∃ j : Nat, j ≤ gl ∧ i = .int .i64 j ∧ FewRel w b lb mb tb cnt j wr) (fun i _ => gl - (intOf i).toNat)
      case atStart => exact ⟨0, Nat.zero_le _, rfl, hst⟩
      case round =>
        obtain ⟨j, hj, rfl, hrel⟩ := hrel
        clear hst
        by_cases hlt : j < gl
        · have hj1 : (j : Int) < (gl : Int) := by omega
          have hj800 : (j : Int) ≤ 800 := by omega
          rcases HBY.out.2 with e | ⟨g0, c', e, hcell⟩
          · omega
          · cases e
            obtain ⟨z, hz0, hz1, hzc⟩ := hcell j hlt
            obtain ⟨rr, A, k, h, own, c, most, tried, F, hk, G⟩ := hrel
            have hcz := F.kin.turn.cell hzc (by simp)
            have hk0 : (0 : Int) < (cnt : Int) := by have := HC1.out; omega
            obtain ⟨s, hs⟩ : ∃ s : Nat, z % (cnt : Int) = (s : Int) := ⟨(z % (cnt : Int)).toNat, by have := Int.emod_nonneg z (show (cnt : Int) ≠ 0 by omega); omega⟩
            have hsk : s < cnt := by have := Int.emod_lt_of_pos z hk0; omega
            have HFW := Lib.hid F
            have HGW := Lib.hid G
            have HS := Lib.hid hsk
            go_upto_region 13 with fail
            rw [hs]
            clear hs
            obtain ⟨pv, hpv⟩ : ∃ pv, pv = (if (c s).isSome then Value.pointer (some ⟨rr s, 0, none⟩) else .pointer none) := ⟨_, rfl⟩
            have cl : wr.cell? ⟨lb, s, none⟩ = some pv := hpv ▸ (Frm.cell_row _ _ _ _ _ _ HFW.out.ll).trans (by simpa using ptrs_get rr c hsk)
            have hsk1 : (s : Int) < (cnt : Int) := by omega
            have HPV := Lib.hid hpv
            clear hpv
            go_upto_block 2 with fail
            go_cut [] (fun W2 => MidRel w b lb mb tb cnt j W2)
            case first =>
              cases hcs : c s with
              | none => as_aux_lemma =>
                obtain rfl : pv = .pointer none := by rw [HPV.out, hcs]; rfl
                have HCS := Lib.hid hcs
                have HK := Lib.hid hk
                have HNW := Lib.hid (kin_new F.kin ((s : Int) + 1))
                have hs13 : (s : Int) ≤ 13 := by have := HC2.out; omega
                clear F G hcs hk HPV
                go_wp2_with (go_at_call 7; (with_reducible refine (HNW.out).mono ?_); rintro e w4 ⟨r, rfl, hr, hkn, hat, hT⟩; have hF := HFW.out.come (by have := HC2.out; omega) HS.out HCS.out hkn hr hat hT; have hl4 := (HFW.out.step hT).ll; have cl4 := (Frm.cell_row _ _ s _ _ _ hl4).trans (by simpa using ptrs_get rr c HS.out); have fl4 := Frm.frozen_row _ _ s _ _ hl4; have HF4 := Lib.hid hF; obtain ⟨cm4, fm4⟩ := heap_ints hF.mm HS.out; have hF5 : FewAt w b lb mb tb cnt (upd rr s r) A k h own (upd c s (some (Cl.new ((s : Int) + 1)))) (upd most s 0) tried ((w4.setCell ⟨lb, s, none⟩ (.pointer (some ⟨r, 0, none⟩))).setCell ⟨mb, s, none⟩ (.int .i64 0)) := hF.setm 0 HS.out; obtain ⟨ct5, ft5⟩ := heap_ints hF5.tt HS.out; have HF6 : Hid (FewAt w b lb mb tb cnt (upd rr s r) A k h own (upd c s (some (Cl.new ((s : Int) + 1)))) (upd most s 0) (upd tried s 0) (((w4.setCell ⟨lb, s, none⟩ (.pointer (some ⟨r, 0, none⟩))).setCell ⟨mb, s, none⟩ (.int .i64 0)).setCell ⟨tb, s, none⟩ (.int .i64 0))) := Lib.hid (hF5.sett 0 HS.out); clear hr hkn hat hT hF hF5 hl4)
                go_meet
                exact ⟨_, _, _, _, _, _, _, _, HF6.out, by have := HK.out; omega, few_new HGW.out HS.out HCS.out⟩
              | some C =>
                obtain rfl : pv = .pointer (some ⟨rr s, 0, none⟩) := by rw [HPV.out, hcs]; rfl
                clear HPV
                have hG := F.inv.good s C hsk hcs
                have HCS := Lib.hid hcs
                have HK := Lib.hid hk
                have HGD := Lib.hid hG
                have HDN := Lib.hid (done_any (F.at_ s C hsk hcs).1 hG.st)
                by_cases h0 : C.st = 0
                · as_aux_lemma =>
                  have hown := G.done s C hsk hcs h0
                  have hlz : C.laid = 0 := by
                    have := hG.laid
                    rw [h0] at this
                    simpa using this
                  obtain ⟨g1, g2⟩ := hG.seg (.inr hown)
                  have HPL := Lib.hid (place_yes (F.at_ s C hsk hcs).1 hown)
                  have HW := Lib.hid (fun W' => RWord_any C.seg C.slot W' hG.slot)
                  have q1 := sg_facts hG.slot
                  have HWR := Lib.hid (fun W' (hT : Frm.Turn [] wr W') => kin_write (F.kin.step hT) (by omega) C.seg (5 * (ofN C.slot : Int)) 0 hG.seg64 (wf_small (by omega) (by omega)) w64_zero)
                  have HGO : Hid (∀ w3 w4, Frm.Turn [] wr w3 → Kin w b (keep lb mb tb cnt rr) (A.write C.seg (5 * (ofN C.slot : Int)) 0).1 (k + 1) w4 → But w (keep lb mb tb cnt rr) none w3 w4 → w4.heap[lb]? = some (.cells (ptrs rr c cnt).toArray 30 (0, 0)) ∧ MidRel w b lb mb tb cnt j (w4.setCell ⟨lb, s, none⟩ (.pointer none))) := Lib.hid (fun w3 w4 hT hk4 hb4 => by
                    have F3 := HFW.out.step hT
                    rw [g1] at hk4
                    obtain ⟨i1, i2⟩ := F3.inv.write hG.slot (by rw [← g1]; exact g2) (v := 0) (by unfold W64; omega)
                    refine ⟨hb4.heap0 (by simp [keep]) F3.ll, ⟨_, _, _, _, _, _, _, _, F3.go HS.out HCS.out hlz hk4 hb4 i1 i2, by have := HK.out; omega, few_gone HGW.out HS.out HCS.out hown⟩⟩)
                  have HH0 := Lib.hid (show decide (C.st = 0) = true by simpa using h0)
                  rw [HH0.out] at HDN
                  clear F G hcs hk hG hown hlz g1 g2 q1 h0
                  generalize 5 * (ofN C.slot : Int) = y at HW HWR HGO
                  generalize hsl : (C.slot : Int) = sl at HPL HW
                  generalize C.seg = sg at HPL HW HWR HGO
                  go_wp2_with (first
                    | (go_at_call 8; (with_reducible refine (HDN.out).mono ?_); rintro e w1 ⟨rfl, rfl⟩)
                    | (go_at_call 9; (with_reducible refine (HPL.out).mono ?_); rintro e w4 ⟨rfl, ht⟩; have HT4 := Lib.hid (ht.alloc (.cells #[.int .u64 sg, .int .i64 sl] 34)); clear ht)
                    | (go_at_call 11; (with_reducible refine (HW.out _).mono ?_); rintro e w5 ⟨rfl, hT⟩; have HT5 := Lib.hid (HT4.out.trans hT (by simp)); clear hT)
                    | (go_at_call 10; (with_reducible refine (HWR.out _ HT5.out).mono ?_); rintro e w6 ⟨rfl, hk6, hb6⟩; obtain ⟨hl6, hmid⟩ := HGO.out _ _ HT5.out hk6 hb6; have HMID := Lib.hid hmid; have cl6 := (Frm.cell_row _ _ s _ _ _ hl6).trans (by simpa using ptrs_get rr c HS.out); have fl6 := Frm.frozen_row _ _ s _ _ hl6; clear hk6 hb6 hl6 hmid))
                  go_meet
                  exact HMID.out
                · have HH0 := Lib.hid (show decide (C.st = 0) = false by simpa using h0)
                  rw [HH0.out] at HDN
                  obtain ⟨t0, t1, t2, t3, t5, htl⟩ := kin_tally F.kin
                  obtain ⟨A', h', own', C', p1, p2, p3, p4, p5, p6, p7⟩ := few_pick (by have := HC2.out; omega) F G hk (by omega) hsk hcs h0
                  have HTL := Lib.hid htl
                  have HST := Lib.hid p1
                  have HG2 := Lib.hid p2
                  have HP4 := Lib.hid p4
                  obtain ⟨ow, how⟩ : ∃ ow : Bool, ow = C'.own := ⟨_, rfl⟩
                  obtain ⟨hb, hhb⟩ : ∃ hb : Bool, hb = hits C C' := ⟨_, rfl⟩
                  obtain ⟨pseg, hpseg⟩ : ∃ x : Int, x = (if C'.own then C'.seg else 0) := ⟨_, rfl⟩
                  obtain ⟨psl, hpsl⟩ : ∃ x : Int, x = (if C'.own then (C'.slot : Int) else 0) := ⟨_, rfl⟩
                  have HPL : Hid (∀ W, ClAt W (rr s) b C' → Calls Try.prog 9 #[.pointer (some ⟨rr s, 0, none⟩)] W fun e w' => e = .returned (.tuple #[.agg #[.int .u64 pseg, .int .i64 psl], .bool ow]) ∧ Frm.Turn [] W w') := Lib.hid (fun W hat => by rw [hpseg, hpsl, how]; exact place_any hat)
                  have HOW := Lib.hid how
                  have HHB := Lib.hid hhb
                  have HPS := Lib.hid hpsl
                  obtain ⟨y0, hy0⟩ : ∃ y : Int, y = (A.t.swaps : Int) := ⟨_, rfl⟩
                  obtain ⟨y1, hy1⟩ : ∃ y : Int, y = (A'.t.swaps : Int) := ⟨_, rfl⟩
                  rw [← hy0] at HTL
                  have HY1 := Lib.hid hy1
                  have HYY : Hid (y1 = y0 + (if C.st = 3 ∨ C.st = 5 then 1 else 0)) := Lib.hid (by rw [hy0, hy1, p3]; split <;> simp)
                  have HRS := Lib.hid (F.kin.lt (keep_rr hsk))
                  have HM6 := Lib.hid (And.intro p6 p7)
                  clear F G hcs hk hG h0 htl p1 p2 p3 p4 p5 p6 p7 how hhb hpseg hpsl hy0 hy1
                  go_upto_region 17 with (first
                    | (go_at_call 8; (with_reducible refine (HDN.out).mono ?_); rintro e w1 ⟨rfl, rfl⟩)
                    | (go_at_call 12; (with_reducible refine (HTL.out).mono ?_); rintro e w4 ⟨rfl, hT⟩; have HT4 := Lib.hid hT; have hT5 := hT.alloc (.cells #[.int .i64 t0, .int .i64 t1, .int .i64 t2, .int .i64 t3, .int .i64 y0, .int .i64 t5] 42); have HST5 := Lib.hid (HST.out _ w4.heap.size (HFW.out.step hT5) (HFW.out.kin.adds hT5 (fun q hq => by rcases List.mem_cons.1 hq with rfl | hq; exact .inr ⟨hT.size, by simp⟩; exact .inl hq))); clear hT hT5)
                    | (go_at_call 13; (with_reducible refine (HST5.out).mono ?_); rintro e w6 ⟨rfl, hF6, hb6⟩; have HF6 := Lib.hid hF6; have HKT6 := Lib.hid (hb6.heap (by simp) (by have := HRS.out; have := HT4.out.size; omega) (World.alloc_heap_new w4 (.cells #[.int .i64 t0, .int .i64 t1, .int .i64 t2, .int .i64 t3, .int .i64 y0, .int .i64 t5] 42))); clear hF6 hb6)
                    | (go_at_call 9; (with_reducible refine (HPL.out _ (HF6.out.at_ s C' HS.out (upd_at _ _ _)).1).mono ?_); rintro e w7 ⟨rfl, hT⟩; have HT7 := Lib.hid hT; clear hT))
                  have hT7 := HT7.out.alloc (.cells #[.int .u64 pseg, .int .i64 psl] 34)
                  have hF7 := HF6.out.step hT7
                  have hkp := World.alloc_heap_new w7 (.cells #[.int .u64 pseg, .int .i64 psl] 34)
                  have hkt := hT7.keep HKT6.out (by simp)
                  generalize w7.alloc (.cells #[.int .u64 pseg, .int .i64 psl] 34) = W7 at hT7 hF7 hkp hkt ⊢
                  generalize w7.heap.size = kp at hkp ⊢
                  generalize w4.heap.size = kt at hkt ⊢
                  have HF7 := Lib.hid hF7
                  have HKP := Lib.hid hkp
                  have HKT := Lib.hid hkt
                  clear hT7 hF7 hkp hkt HTL HST HST5 HT4 HKT6 HT7 HDN
                  go_cut [83] (fun s83 W8 => s83 = .bool hb ∧ Frm.Turn [] W7 W8)
                  case first => as_aux_lemma =>
                    cases ow with
                    | true =>
                      obtain rfl : hb = true := by rw [HHB.out]; unfold hits; rw [← HOW.out]; rfl
                      go_quiet (fail)
                      go_wp2_with fail
                      go_meet
                      exact ⟨rfl, (Frm.Turn.refl [] W7).drewN _⟩
                    | false =>
                      obtain ⟨u0, u1, u2, u3, u5, htl⟩ := kin_tally (HF7.out.step ((Frm.Turn.refl [] W7).drew)).kin
                      rw [← HY1.out] at htl
                      have HTL := Lib.hid htl
                      have ck : W7.cell? ⟨kt, 4, none⟩ = some (.int .i64 y0) := (Frm.cell_row _ _ 4 _ _ _ HKT.out).trans rfl
                      have hfl := tally_swaps
                      clear htl
                      by_cases hd : C.st = 3 ∨ C.st = 5
                      · have hyy : y0 < y1 := by rw [HYY.out, if_pos hd]; omega
                        by_cases hl : C'.laid = 0
                        · obtain rfl : hb = true := by rw [HHB.out]; unfold hits; rw [← HOW.out]; simp [hd, hl]
                          have HPV := Lib.hid (fun W (hT : Frm.Turn [] W7 W) => private_none ((HF7.out.step hT).at_ s C' HS.out (upd_at _ _ _)).1 hl)
                          clear hd hl
                          have HS : Hid (∀ W, Frm.Turn [] W7 W → W.cell? ⟨kt, 4, none⟩ = some (.int .i64 y0)) := Lib.hid (fun W hT => hT.cell ck (by simp))
                          refine wp_region_held_drew (S := fun W' => W'.cell? ⟨kt, 4, none⟩ = some (.int .i64 y0)) (by kernel_rfl) ?_ (fun hHeld => ?_)
                          · exact HS.out _ (Frm.Turn.refl [] W7).drew
                          refine wpAnyH_take (i := 0) (v := ?_) rfl (by kernel_rfl) (by kernel_rfl) (by kernel_rfl) (fun _ _ _ h => h) (Or.inl ⟨by rfl, ?_⟩) (by assumption) ?_
                          rotate_left
                          · (intro w hSw; (try dsimp only at hSw); go_simp; try with_reducible rfl)
                          try simp only [Act.put, List.getElem_toArray, List.getElem_cons_succ, List.getElem_cons_zero, List.setIfInBounds_toArray, List.set_cons_zero, List.set_cons_succ]
                          refine wpAnyH_take (i := 1) (v := ?_) rfl (by kernel_rfl) (by kernel_rfl) (by kernel_rfl) (fun _ _ _ h => h) (Or.inl ⟨by rfl, ?_⟩) (by assumption) ?_
                          rotate_left
                          · (intro w hSw; (try dsimp only at hSw); go_simp; try with_reducible rfl)
                          try simp only [Act.put, List.getElem_toArray, List.getElem_cons_succ, List.getElem_cons_zero, List.setIfInBounds_toArray, List.set_cons_zero, List.set_cons_succ]
                          refine wpAnyH_take (i := 2) (v := ?_) rfl (by kernel_rfl) (by kernel_rfl) (by kernel_rfl) (fun _ _ _ h => h) (Or.inl ⟨by rfl, ?_⟩) (by assumption) ?_
                          rotate_left
                          · (intro w hSw; (try dsimp only at hSw); go_simp; try with_reducible rfl)
                          try simp only [Act.put, List.getElem_toArray, List.getElem_cons_succ, List.getElem_cons_zero, List.setIfInBounds_toArray, List.set_cons_zero, List.set_cons_succ]
                          refine wpAnyH_take (i := 5) (v := ?_) rfl (by kernel_rfl) (by kernel_rfl) (by kernel_rfl) (fun _ _ _ h => h) (Or.inl ⟨by rfl, ?_⟩) (by assumption) ?_
                          rotate_left
                          · (intro w hSw; (try dsimp only at hSw); go_simp; try with_reducible rfl)
                          try simp only [Act.put, List.getElem_toArray, List.getElem_cons_succ, List.getElem_cons_zero, List.setIfInBounds_toArray, List.set_cons_zero, List.set_cons_succ]
                          refine wpAnyH_take (i := 6) (v := ?_) rfl (by kernel_rfl) (by kernel_rfl) (by kernel_rfl) (fun _ _ _ h => h) (Or.inl ⟨by rfl, ?_⟩) (by assumption) ?_
                          rotate_left
                          · (intro w hSw; (try dsimp only at hSw); go_simp; try with_reducible rfl)
                          try simp only [Act.put, List.getElem_toArray, List.getElem_cons_succ, List.getElem_cons_zero, List.setIfInBounds_toArray, List.set_cons_zero, List.set_cons_succ]
                          refine wpAnyH_ready (rs := [3]) (by kernel_rfl) (by simp) ?_
                          refine AllReadyH.cons rfl (fun K hK => ?_) AllReadyH.nil
                          try simp only [List.getElem_toArray, List.getElem_cons_succ, List.getElem_cons_zero]
                          have HK4 := Lib.hid hK
                          clear hK
                          go_simp
                          (go_at_call 12; (with_reducible refine (HTL.out).mono ?_); rintro e w8 ⟨rfl, hT⟩; have HT8 := Lib.hid (((Frm.Turn.refl [] W7).drew).trans hT (by simp)); clear hT)
                          try go_wp2_with fail
                          refine HK4.out _ _ (HS.out _ HT8.out) (fun hHeld => ?_)
                          clear HK4 K
                          try simp only [Act.put, List.getElem_toArray, List.getElem_cons_succ, List.getElem_cons_zero, List.setIfInBounds_toArray, List.set_cons_zero, List.set_cons_succ]
                          refine wpAnyH_take (i := 4) (v := ?_) rfl (by kernel_rfl) (by kernel_rfl) (by kernel_rfl) (fun _ _ _ h => h) (Or.inl ⟨by rfl, ?_⟩) (by assumption) ?_
                          rotate_left
                          · (intro w hSw; (try dsimp only at hSw); go_simp; try with_reducible rfl)
                          try simp only [Act.put, List.getElem_toArray, List.getElem_cons_succ, List.getElem_cons_zero, List.setIfInBounds_toArray, List.set_cons_zero, List.set_cons_succ]
                          refine wpAnyH_take (i := 7) (v := ?_) rfl (by kernel_rfl) (by kernel_rfl) (by kernel_rfl) (fun _ _ _ h => h) (Or.inl ⟨by rfl, ?_⟩) (by assumption) ?_
                          rotate_left
                          · (intro w hSw; (try dsimp only at hSw); go_simp; try with_reducible rfl)
                          try simp only [Act.put, List.getElem_toArray, List.getElem_cons_succ, List.getElem_cons_zero, List.setIfInBounds_toArray, List.set_cons_zero, List.set_cons_succ]
                          refine wpAnyH_take (i := 8) (v := ?_) rfl (by kernel_rfl) (by kernel_rfl) (by kernel_rfl) (fun _ _ _ h => h) (Or.inl ⟨by rfl, ?_⟩) (by assumption) ?_
                          rotate_left
                          · (intro w hSw; (try dsimp only at hSw); go_simp; try with_reducible rfl)
                          try simp only [Act.put, List.getElem_toArray, List.getElem_cons_succ, List.getElem_cons_zero, List.setIfInBounds_toArray, List.set_cons_zero, List.set_cons_succ]
                          refine wpAnyH_take (i := 9) (v := ?_) rfl (by kernel_rfl) (by kernel_rfl) (by kernel_rfl) (fun _ _ _ h => h) (Or.inl ⟨by rfl, ?_⟩) (by assumption) ?_
                          rotate_left
                          · (intro w hSw; (try dsimp only at hSw); go_simp; try with_reducible rfl)
                          try simp only [Act.put, List.getElem_toArray, List.getElem_cons_succ, List.getElem_cons_zero, List.setIfInBounds_toArray, List.set_cons_zero, List.set_cons_succ]
                          refine wpAnyH_ready (rs := [10]) (by kernel_rfl) (by simp) ?_
                          refine AllReadyH.cons rfl (fun K hK => ?_) AllReadyH.nil
                          try simp only [List.getElem_toArray, List.getElem_cons_succ, List.getElem_cons_zero]
                          have HK4 := Lib.hid hK
                          clear hK
                          go_simp
                          (go_at_call 14; (with_reducible refine (HPV.out _ HT8.out).mono ?_); rintro e w9 ⟨rfl, rfl⟩)
                          try go_wp2_with fail
                          refine HK4.out _ _ (HS.out _ HT8.out) (fun hHeld => ?_)
                          clear HK4 K
                          try simp only [Act.put, List.getElem_toArray, List.getElem_cons_succ, List.getElem_cons_zero, List.setIfInBounds_toArray, List.set_cons_zero, List.set_cons_succ]
                          refine wpAnyH_take (i := 11) (v := ?_) rfl (by kernel_rfl) (by kernel_rfl) (by kernel_rfl) (fun _ _ _ h => h) (Or.inl ⟨by rfl, ?_⟩) (by assumption) ?_
                          rotate_left
                          · (intro w hSw; (try dsimp only at hSw); go_simp; try with_reducible rfl)
                          try simp only [Act.put, List.getElem_toArray, List.getElem_cons_succ, List.getElem_cons_zero, List.setIfInBounds_toArray, List.set_cons_zero, List.set_cons_succ]
                          refine wpAnyH_take (i := 12) (v := ?_) rfl (by kernel_rfl) (by kernel_rfl) (by kernel_rfl) (fun _ _ _ h => h) (Or.inl ⟨by rfl, ?_⟩) (by assumption) ?_
                          rotate_left
                          · (intro w hSw; (try dsimp only at hSw); go_simp; try with_reducible rfl)
                          try simp only [Act.put, List.getElem_toArray, List.getElem_cons_succ, List.getElem_cons_zero, List.setIfInBounds_toArray, List.set_cons_zero, List.set_cons_succ]
                          refine wpAnyH_take (i := 13) (v := ?_) rfl (by kernel_rfl) (by kernel_rfl) (by kernel_rfl) (fun _ _ _ h => h) (Or.inl ⟨by rfl, ?_⟩) (by assumption) ?_
                          rotate_left
                          · (intro w hSw; (try dsimp only at hSw); go_simp; try with_reducible rfl)
                          try simp only [Act.put, List.getElem_toArray, List.getElem_cons_succ, List.getElem_cons_zero, List.setIfInBounds_toArray, List.set_cons_zero, List.set_cons_succ]
                          refine wpAnyH_take (i := 14) (v := ?_) rfl (by kernel_rfl) (by kernel_rfl) (by kernel_rfl) (fun _ _ _ h => h) (Or.inl ⟨by rfl, ?_⟩) (by assumption) ?_
                          rotate_left
                          · (intro w hSw; (try dsimp only at hSw); go_simp; try with_reducible rfl)
                          try simp only [Act.put, List.getElem_toArray, List.getElem_cons_succ, List.getElem_cons_zero, List.setIfInBounds_toArray, List.set_cons_zero, List.set_cons_succ]
                          refine wpAnyH_done (by kernel_rfl) ?_ _
                          go_wp2_with fail
                          go_meet
                          exact ⟨rfl, HT8.out⟩
                        · obtain rfl : hb = false := by rw [HHB.out]; unfold hits; rw [← HOW.out]; simp [hl]
                          have HPV := Lib.hid (fun W (hT : Frm.Turn [] W7 W) => private_some ((HF7.out.step hT).at_ s C' HS.out (upd_at _ _ _)).1 hl)
                          clear hd hl
                          have HS : Hid (∀ W, Frm.Turn [] W7 W → W.cell? ⟨kt, 4, none⟩ = some (.int .i64 y0)) := Lib.hid (fun W hT => hT.cell ck (by simp))
                          refine wp_region_held_drew (S := fun W' => W'.cell? ⟨kt, 4, none⟩ = some (.int .i64 y0)) (by kernel_rfl) ?_ (fun hHeld => ?_)
                          · exact HS.out _ (Frm.Turn.refl [] W7).drew
                          refine wpAnyH_take (i := 0) (v := ?_) rfl (by kernel_rfl) (by kernel_rfl) (by kernel_rfl) (fun _ _ _ h => h) (Or.inl ⟨by rfl, ?_⟩) (by assumption) ?_
                          rotate_left
                          · (intro w hSw; (try dsimp only at hSw); go_simp; try with_reducible rfl)
                          try simp only [Act.put, List.getElem_toArray, List.getElem_cons_succ, List.getElem_cons_zero, List.setIfInBounds_toArray, List.set_cons_zero, List.set_cons_succ]
                          refine wpAnyH_take (i := 1) (v := ?_) rfl (by kernel_rfl) (by kernel_rfl) (by kernel_rfl) (fun _ _ _ h => h) (Or.inl ⟨by rfl, ?_⟩) (by assumption) ?_
                          rotate_left
                          · (intro w hSw; (try dsimp only at hSw); go_simp; try with_reducible rfl)
                          try simp only [Act.put, List.getElem_toArray, List.getElem_cons_succ, List.getElem_cons_zero, List.setIfInBounds_toArray, List.set_cons_zero, List.set_cons_succ]
                          refine wpAnyH_take (i := 2) (v := ?_) rfl (by kernel_rfl) (by kernel_rfl) (by kernel_rfl) (fun _ _ _ h => h) (Or.inl ⟨by rfl, ?_⟩) (by assumption) ?_
                          rotate_left
                          · (intro w hSw; (try dsimp only at hSw); go_simp; try with_reducible rfl)
                          try simp only [Act.put, List.getElem_toArray, List.getElem_cons_succ, List.getElem_cons_zero, List.setIfInBounds_toArray, List.set_cons_zero, List.set_cons_succ]
                          refine wpAnyH_take (i := 5) (v := ?_) rfl (by kernel_rfl) (by kernel_rfl) (by kernel_rfl) (fun _ _ _ h => h) (Or.inl ⟨by rfl, ?_⟩) (by assumption) ?_
                          rotate_left
                          · (intro w hSw; (try dsimp only at hSw); go_simp; try with_reducible rfl)
                          try simp only [Act.put, List.getElem_toArray, List.getElem_cons_succ, List.getElem_cons_zero, List.setIfInBounds_toArray, List.set_cons_zero, List.set_cons_succ]
                          refine wpAnyH_take (i := 6) (v := ?_) rfl (by kernel_rfl) (by kernel_rfl) (by kernel_rfl) (fun _ _ _ h => h) (Or.inl ⟨by rfl, ?_⟩) (by assumption) ?_
                          rotate_left
                          · (intro w hSw; (try dsimp only at hSw); go_simp; try with_reducible rfl)
                          try simp only [Act.put, List.getElem_toArray, List.getElem_cons_succ, List.getElem_cons_zero, List.setIfInBounds_toArray, List.set_cons_zero, List.set_cons_succ]
                          refine wpAnyH_ready (rs := [3]) (by kernel_rfl) (by simp) ?_
                          refine AllReadyH.cons rfl (fun K hK => ?_) AllReadyH.nil
                          try simp only [List.getElem_toArray, List.getElem_cons_succ, List.getElem_cons_zero]
                          have HK4 := Lib.hid hK
                          clear hK
                          go_simp
                          (go_at_call 12; (with_reducible refine (HTL.out).mono ?_); rintro e w8 ⟨rfl, hT⟩; have HT8 := Lib.hid (((Frm.Turn.refl [] W7).drew).trans hT (by simp)); clear hT)
                          try go_wp2_with fail
                          refine HK4.out _ _ (HS.out _ HT8.out) (fun hHeld => ?_)
                          clear HK4 K
                          try simp only [Act.put, List.getElem_toArray, List.getElem_cons_succ, List.getElem_cons_zero, List.setIfInBounds_toArray, List.set_cons_zero, List.set_cons_succ]
                          refine wpAnyH_take (i := 4) (v := ?_) rfl (by kernel_rfl) (by kernel_rfl) (by kernel_rfl) (fun _ _ _ h => h) (Or.inl ⟨by rfl, ?_⟩) (by assumption) ?_
                          rotate_left
                          · (intro w hSw; (try dsimp only at hSw); go_simp; try with_reducible rfl)
                          try simp only [Act.put, List.getElem_toArray, List.getElem_cons_succ, List.getElem_cons_zero, List.setIfInBounds_toArray, List.set_cons_zero, List.set_cons_succ]
                          refine wpAnyH_take (i := 7) (v := ?_) rfl (by kernel_rfl) (by kernel_rfl) (by kernel_rfl) (fun _ _ _ h => h) (Or.inl ⟨by rfl, ?_⟩) (by assumption) ?_
                          rotate_left
                          · (intro w hSw; (try dsimp only at hSw); go_simp; try with_reducible rfl)
                          try simp only [Act.put, List.getElem_toArray, List.getElem_cons_succ, List.getElem_cons_zero, List.setIfInBounds_toArray, List.set_cons_zero, List.set_cons_succ]
                          refine wpAnyH_take (i := 8) (v := ?_) rfl (by kernel_rfl) (by kernel_rfl) (by kernel_rfl) (fun _ _ _ h => h) (Or.inl ⟨by rfl, ?_⟩) (by assumption) ?_
                          rotate_left
                          · (intro w hSw; (try dsimp only at hSw); go_simp; try with_reducible rfl)
                          try simp only [Act.put, List.getElem_toArray, List.getElem_cons_succ, List.getElem_cons_zero, List.setIfInBounds_toArray, List.set_cons_zero, List.set_cons_succ]
                          refine wpAnyH_take (i := 9) (v := ?_) rfl (by kernel_rfl) (by kernel_rfl) (by kernel_rfl) (fun _ _ _ h => h) (Or.inl ⟨by rfl, ?_⟩) (by assumption) ?_
                          rotate_left
                          · (intro w hSw; (try dsimp only at hSw); go_simp; try with_reducible rfl)
                          try simp only [Act.put, List.getElem_toArray, List.getElem_cons_succ, List.getElem_cons_zero, List.setIfInBounds_toArray, List.set_cons_zero, List.set_cons_succ]
                          refine wpAnyH_ready (rs := [10]) (by kernel_rfl) (by simp) ?_
                          refine AllReadyH.cons rfl (fun K hK => ?_) AllReadyH.nil
                          try simp only [List.getElem_toArray, List.getElem_cons_succ, List.getElem_cons_zero]
                          have HK4 := Lib.hid hK
                          clear hK
                          go_simp
                          (go_at_call 14; (with_reducible refine (HPV.out _ HT8.out).mono ?_); rintro e w9 ⟨rfl, _, hT⟩; have HT9 := Lib.hid (HT8.out.trans hT (by simp)); clear hT)
                          try go_wp2_with fail
                          refine HK4.out _ _ (HS.out _ HT9.out) (fun hHeld => ?_)
                          clear HK4 K
                          try simp only [Act.put, List.getElem_toArray, List.getElem_cons_succ, List.getElem_cons_zero, List.setIfInBounds_toArray, List.set_cons_zero, List.set_cons_succ]
                          refine wpAnyH_take (i := 11) (v := ?_) rfl (by kernel_rfl) (by kernel_rfl) (by kernel_rfl) (fun _ _ _ h => h) (Or.inl ⟨by rfl, ?_⟩) (by assumption) ?_
                          rotate_left
                          · (intro w hSw; (try dsimp only at hSw); go_simp; try with_reducible rfl)
                          try simp only [Act.put, List.getElem_toArray, List.getElem_cons_succ, List.getElem_cons_zero, List.setIfInBounds_toArray, List.set_cons_zero, List.set_cons_succ]
                          refine wpAnyH_take (i := 12) (v := ?_) rfl (by kernel_rfl) (by kernel_rfl) (by kernel_rfl) (fun _ _ _ h => h) (Or.inl ⟨by rfl, ?_⟩) (by assumption) ?_
                          rotate_left
                          · (intro w hSw; (try dsimp only at hSw); go_simp; try with_reducible rfl)
                          try simp only [Act.put, List.getElem_toArray, List.getElem_cons_succ, List.getElem_cons_zero, List.setIfInBounds_toArray, List.set_cons_zero, List.set_cons_succ]
                          refine wpAnyH_take (i := 13) (v := ?_) rfl (by kernel_rfl) (by kernel_rfl) (by kernel_rfl) (fun _ _ _ h => h) (Or.inl ⟨by rfl, ?_⟩) (by assumption) ?_
                          rotate_left
                          · (intro w hSw; (try dsimp only at hSw); go_simp; try with_reducible rfl)
                          try simp only [Act.put, List.getElem_toArray, List.getElem_cons_succ, List.getElem_cons_zero, List.setIfInBounds_toArray, List.set_cons_zero, List.set_cons_succ]
                          refine wpAnyH_take (i := 14) (v := ?_) rfl (by kernel_rfl) (by kernel_rfl) (by kernel_rfl) (fun _ _ _ h => h) (Or.inl ⟨by rfl, ?_⟩) (by assumption) ?_
                          rotate_left
                          · (intro w hSw; (try dsimp only at hSw); go_simp; try with_reducible rfl)
                          try simp only [Act.put, List.getElem_toArray, List.getElem_cons_succ, List.getElem_cons_zero, List.setIfInBounds_toArray, List.set_cons_zero, List.set_cons_succ]
                          refine wpAnyH_done (by kernel_rfl) ?_ _
                          go_wp2_with fail
                          go_meet
                          exact ⟨rfl, HT9.out⟩
                      · obtain rfl : y1 = y0 := by rw [HYY.out, if_neg hd]; omega
                        obtain rfl : hb = false := by rw [HHB.out]; unfold hits; rw [← HOW.out]; simp [hd]
                        clear hd
                        have HS : Hid (∀ W, Frm.Turn [] W7 W → W.cell? ⟨kt, 4, none⟩ = some (.int .i64 y1)) := Lib.hid (fun W hT => hT.cell ck (by simp))
                        refine wp_region_held_drew (S := fun W' => W'.cell? ⟨kt, 4, none⟩ = some (.int .i64 y1)) (by kernel_rfl) ?_ (fun hHeld => ?_)
                        · exact HS.out _ (Frm.Turn.refl [] W7).drew
                        refine wpAnyH_take (i := 0) (v := ?_) rfl (by kernel_rfl) (by kernel_rfl) (by kernel_rfl) (fun _ _ _ h => h) (Or.inl ⟨by rfl, ?_⟩) (by assumption) ?_
                        rotate_left
                        · (intro w hSw; (try dsimp only at hSw); go_simp; try with_reducible rfl)
                        try simp only [Act.put, List.getElem_toArray, List.getElem_cons_succ, List.getElem_cons_zero, List.setIfInBounds_toArray, List.set_cons_zero, List.set_cons_succ]
                        refine wpAnyH_take (i := 1) (v := ?_) rfl (by kernel_rfl) (by kernel_rfl) (by kernel_rfl) (fun _ _ _ h => h) (Or.inl ⟨by rfl, ?_⟩) (by assumption) ?_
                        rotate_left
                        · (intro w hSw; (try dsimp only at hSw); go_simp; try with_reducible rfl)
                        try simp only [Act.put, List.getElem_toArray, List.getElem_cons_succ, List.getElem_cons_zero, List.setIfInBounds_toArray, List.set_cons_zero, List.set_cons_succ]
                        refine wpAnyH_take (i := 2) (v := ?_) rfl (by kernel_rfl) (by kernel_rfl) (by kernel_rfl) (fun _ _ _ h => h) (Or.inl ⟨by rfl, ?_⟩) (by assumption) ?_
                        rotate_left
                        · (intro w hSw; (try dsimp only at hSw); go_simp; try with_reducible rfl)
                        try simp only [Act.put, List.getElem_toArray, List.getElem_cons_succ, List.getElem_cons_zero, List.setIfInBounds_toArray, List.set_cons_zero, List.set_cons_succ]
                        refine wpAnyH_take (i := 5) (v := ?_) rfl (by kernel_rfl) (by kernel_rfl) (by kernel_rfl) (fun _ _ _ h => h) (Or.inl ⟨by rfl, ?_⟩) (by assumption) ?_
                        rotate_left
                        · (intro w hSw; (try dsimp only at hSw); go_simp; try with_reducible rfl)
                        try simp only [Act.put, List.getElem_toArray, List.getElem_cons_succ, List.getElem_cons_zero, List.setIfInBounds_toArray, List.set_cons_zero, List.set_cons_succ]
                        refine wpAnyH_take (i := 6) (v := ?_) rfl (by kernel_rfl) (by kernel_rfl) (by kernel_rfl) (fun _ _ _ h => h) (Or.inl ⟨by rfl, ?_⟩) (by assumption) ?_
                        rotate_left
                        · (intro w hSw; (try dsimp only at hSw); go_simp; try with_reducible rfl)
                        try simp only [Act.put, List.getElem_toArray, List.getElem_cons_succ, List.getElem_cons_zero, List.setIfInBounds_toArray, List.set_cons_zero, List.set_cons_succ]
                        refine wpAnyH_ready (rs := [3]) (by kernel_rfl) (by simp) ?_
                        refine AllReadyH.cons rfl (fun K hK => ?_) AllReadyH.nil
                        try simp only [List.getElem_toArray, List.getElem_cons_succ, List.getElem_cons_zero]
                        have HK4 := Lib.hid hK
                        clear hK
                        go_simp
                        (go_at_call 12; (with_reducible refine (HTL.out).mono ?_); rintro e w8 ⟨rfl, hT⟩; have HT8 := Lib.hid (((Frm.Turn.refl [] W7).drew).trans hT (by simp)); clear hT)
                        try go_wp2_with fail
                        refine HK4.out _ _ (HS.out _ HT8.out) (fun hHeld => ?_)
                        clear HK4 K
                        try simp only [Act.put, List.getElem_toArray, List.getElem_cons_succ, List.getElem_cons_zero, List.setIfInBounds_toArray, List.set_cons_zero, List.set_cons_succ]
                        refine wpAnyH_take (i := 4) (v := ?_) rfl (by kernel_rfl) (by kernel_rfl) (by kernel_rfl) (fun _ _ _ h => h) (Or.inl ⟨by rfl, ?_⟩) (by assumption) ?_
                        rotate_left
                        · (intro w hSw; (try dsimp only at hSw); go_simp; try with_reducible rfl)
                        try simp only [Act.put, List.getElem_toArray, List.getElem_cons_succ, List.getElem_cons_zero, List.setIfInBounds_toArray, List.set_cons_zero, List.set_cons_succ]
                        refine wpAnyH_take (i := 7) (v := ?_) rfl (by kernel_rfl) (by kernel_rfl) (by kernel_rfl) (fun _ _ _ h => h) (Or.inl ⟨by rfl, ?_⟩) (by assumption) ?_
                        rotate_left
                        · (intro w hSw; (try dsimp only at hSw); go_simp; try with_reducible rfl)
                        try simp only [Act.put, List.getElem_toArray, List.getElem_cons_succ, List.getElem_cons_zero, List.setIfInBounds_toArray, List.set_cons_zero, List.set_cons_succ]
                        refine wpAnyH_take (i := 8) (v := ?_) rfl (by kernel_rfl) (by kernel_rfl) (by kernel_rfl) (fun _ _ _ h => h) (Or.inl ⟨by rfl, ?_⟩) (by assumption) ?_
                        rotate_left
                        · (intro w hSw; (try dsimp only at hSw); go_simp; try with_reducible rfl)
                        try simp only [Act.put, List.getElem_toArray, List.getElem_cons_succ, List.getElem_cons_zero, List.setIfInBounds_toArray, List.set_cons_zero, List.set_cons_succ]
                        refine wpAnyH_take (i := 9) (v := undef) rfl (by kernel_rfl) (by kernel_rfl) (by kernel_rfl) (fun _ _ _ h => h) (Or.inr ⟨by rfl, rfl⟩) (by assumption) ?_
                        try simp only [Act.put, List.getElem_toArray, List.getElem_cons_succ, List.getElem_cons_zero, List.setIfInBounds_toArray, List.set_cons_zero, List.set_cons_succ]
                        refine wpAnyH_take (i := 10) (v := undef) rfl (by kernel_rfl) (by kernel_rfl) (by kernel_rfl) (fun _ _ _ h => h) (Or.inr ⟨by rfl, rfl⟩) (by assumption) ?_
                        try simp only [Act.put, List.getElem_toArray, List.getElem_cons_succ, List.getElem_cons_zero, List.setIfInBounds_toArray, List.set_cons_zero, List.set_cons_succ]
                        refine wpAnyH_take (i := 11) (v := undef) rfl (by kernel_rfl) (by kernel_rfl) (by kernel_rfl) (fun _ _ _ h => h) (Or.inr ⟨by rfl, rfl⟩) (by assumption) ?_
                        try simp only [Act.put, List.getElem_toArray, List.getElem_cons_succ, List.getElem_cons_zero, List.setIfInBounds_toArray, List.set_cons_zero, List.set_cons_succ]
                        refine wpAnyH_take (i := 12) (v := undef) rfl (by kernel_rfl) (by kernel_rfl) (by kernel_rfl) (fun _ _ _ h => h) (Or.inr ⟨by rfl, rfl⟩) (by assumption) ?_
                        try simp only [Act.put, List.getElem_toArray, List.getElem_cons_succ, List.getElem_cons_zero, List.setIfInBounds_toArray, List.set_cons_zero, List.set_cons_succ]
                        refine wpAnyH_take (i := 13) (v := ?_) rfl (by kernel_rfl) (by kernel_rfl) (by kernel_rfl) (fun _ _ _ h => h) (Or.inl ⟨by rfl, ?_⟩) (by assumption) ?_
                        rotate_left
                        · (intro w hSw; (try dsimp only at hSw); go_simp; try with_reducible rfl)
                        try simp only [Act.put, List.getElem_toArray, List.getElem_cons_succ, List.getElem_cons_zero, List.setIfInBounds_toArray, List.set_cons_zero, List.set_cons_succ]
                        refine wpAnyH_take (i := 14) (v := ?_) rfl (by kernel_rfl) (by kernel_rfl) (by kernel_rfl) (fun _ _ _ h => h) (Or.inl ⟨by rfl, ?_⟩) (by assumption) ?_
                        rotate_left
                        · (intro w hSw; (try dsimp only at hSw); go_simp; try with_reducible rfl)
                        try simp only [Act.put, List.getElem_toArray, List.getElem_cons_succ, List.getElem_cons_zero, List.setIfInBounds_toArray, List.set_cons_zero, List.set_cons_succ]
                        refine wpAnyH_done (by kernel_rfl) ?_ _
                        go_wp2_with fail
                        go_meet
                        exact ⟨rfl, HT8.out⟩
                  case rest => as_aux_lemma =>
                    obtain ⟨rfl, hT8⟩ := hcut
                    have hF8 := HF7.out.step hT8
                    have hkp8 := hT8.keep HKP.out (by simp)
                    have HG3 := HG2.out
                    rw [← HHB.out] at HG3
                    have HK3 : k + 1 ≤ 2 * (j + 1) := by have := HK.out; omega
                    cases hb with
                    | false =>
                      have HMID : Hid (MidRel w b lb mb tb cnt j wc) := Lib.hid ⟨_, _, _, _, _, _, _, _, hF8, HK3, by simpa using HG3⟩
                      clear hT8 hF8 hkp8 HG3 HK3
                      go_wp2_with fail
                      go_meet
                      exact HMID.out
                    | true =>
                      obtain ⟨ct8, ft8⟩ := heap_ints hF8.tt HS.out
                      have hF9 := hF8.sett (tried s + 1) HS.out
                      have hkp9 := other_set (i := s) (.int .i64 ((tried s + 1 : Nat) : Int)) hkp8 (types_ne hkp8 hF8.tt (by decide))
                      have etr : ((tried s + 1 : Nat) : Int) = (tried s : Int) + 1 := by omega
                      obtain ⟨cm9, _⟩ := heap_ints hF9.mm HS.out
                      obtain ⟨ct9, _⟩ := heap_ints hF9.tt HS.out
                      rw [upd_at, etr] at ct9
                      have cp9 := (Frm.cell_row _ _ 1 _ _ _ hkp9).trans (show (#[Value.int .u64 pseg, .int .i64 psl])[1]? = some (.int .i64 psl) from rfl)
                      rw [etr] at hF9 cm9 cp9
                      have HMID : Hid (MidRel w b lb mb tb cnt j (wc.setCell ⟨tb, s, none⟩ (.int .i64 ((tried s : Int) + 1)))) := Lib.hid ⟨_, _, _, _, _, _, _, _, hF9, HK3, by simpa using HG3⟩
                      have tr0 : (tried s : Int) ≤ 40 := by have := HM6.out.2; omega
                      have ms0 : (most s : Int) ≤ 13 := by have := HM6.out.1; omega
                      have HLK : Hid (ow = true → psl < (most s : Int) ∧ (tried s : Int) + 1 ≤ 2 * (most s : Int) + 8) := Lib.hid (fun e => by
                        rw [HOW.out] at e
                        have := HP4.out e
                        rw [HPS.out, if_pos e]
                        omega)
                      clear hT8 hF8 hkp8 HG3 HK3 hF9 hkp9 etr
                      have ms1 : (0 : Int) ≤ (most s : Int) := Int.natCast_nonneg _
                      have tr1 : (0 : Int) ≤ (tried s : Int) := Int.natCast_nonneg _
                      generalize (tried s : Int) = tv at ct8 ct9 cm9 cp9 HMID tr0 tr1 HLK ⊢
                      generalize (most s : Int) = mv at cm9 ms0 ms1 HLK ⊢
                      go_upto_region 19 with fail
                      go_cut [112] (fun s112 W9 => s112 = .bool false ∧ Frm.Turn [] (wc.setCell ⟨tb, s, none⟩ (.int .i64 (tv + 1))) W9)
                      case first =>
                        cases ow with
                        | true =>
                          obtain ⟨l1, l2⟩ := HLK.out rfl
                          have hd1 : decide (mv ≤ psl) = false := by simp; omega
                          have hd2 : decide (2 * mv + 8 < tv + 1) = false := by simp; omega
                          have hx1 : IntKind.i64.wrap (2 * mv) = 2 * mv := by simp only [IntKind.wrap_i64]; omega
                          have hx2 : IntKind.i64.wrap (2 * mv + 8) = 2 * mv + 8 := by simp only [IntKind.wrap_i64]; omega
                          clear HLK l1 l2
                          go_quiet (fail)
                          go_wp2_with fail
                          go_meet
                          exact ⟨rfl, (Frm.Turn.refl [] _).drewN _⟩
                        | false =>
                          clear HLK
                          go_quiet (fail)
                          go_wp2_with fail
                          go_meet
                          exact ⟨rfl, (Frm.Turn.refl [] _).drewN _⟩
                      case rest =>
                        obtain ⟨rfl, hdr⟩ := hcut
                        have HM2 := Lib.hid (HMID.out.step hdr)
                        clear hdr
                        go_wp2_with fail
                        go_meet
                        exact HM2.out
            case rest => as_aux_lemma =>
              clear HFW HGW HPV cl F G hk hcz hsk hsk1 HS
              obtain ⟨rr, A, k, h, own, c, most, tried, F, hk, G⟩ := hcut
              have HF := Lib.hid F
              have HG := Lib.hid G
              have HK := Lib.hid hk
              have hth := there_le c cnt
              have HTH := Lib.hid hth
              clear F G hk hth
              go_wp2_with fail
              go_loopw [20, 149] (fun t i wz => ∃ (x : Nat) (y : Int), x ≤ cnt ∧ i = .int .i64 x ∧ t = .int .i64 y ∧ y = (there c x : Int) ∧ wc = wz) (fun _ i _ => cnt - (intOf i).toNat)
              case atStart => exact ⟨0, 0, Nat.zero_le _, rfl, rfl, rfl, rfl⟩
              case round =>
                obtain ⟨x, y, hx, rfl, rfl, hy, rfl⟩ := hrel
                have hy0 : 0 ≤ y := by rw [hy]; exact Int.natCast_nonneg _
                have hy1 : y ≤ 13 := by have := there_le c x; have := HC2.out; omega
                have HY := Lib.hid hy
                clear hy
                by_cases hlx : x < cnt
                · have hx1 : (x : Int) < (cnt : Int) := by omega
                  have hx13 : (x : Int) ≤ 13 := by have := HC2.out; omega
                  obtain ⟨pv, hpv⟩ : ∃ pv, pv = (if (c x).isSome then Value.pointer (some ⟨rr x, 0, none⟩) else .pointer none) := ⟨_, rfl⟩
                  have cl : wc.cell? ⟨lb, x, none⟩ = some pv := hpv ▸ (Frm.cell_row _ _ _ _ _ _ HF.out.ll).trans (by simpa using ptrs_get rr c hlx)
                  cases hcx : c x with
                  | none =>
                    obtain rfl : pv = .pointer none := by rw [hpv, hcx]; rfl
                    have HCX := Lib.hid hcx
                    clear hpv hcx
                    go_wp2_with fail
                    refine ⟨⟨x + 1, y, by omega, by simp, rfl, by simp [there, HCX.out, HY.out], by simp⟩, ?_⟩
                    simp [intOf]; omega
                  | some C =>
                    obtain rfl : pv = .pointer (some ⟨rr x, 0, none⟩) := by rw [hpv, hcx]; rfl
                    have HCX := Lib.hid hcx
                    clear hpv hcx
                    go_wp2_with fail
                    refine ⟨⟨x + 1, y + 1, by omega, by simp, rfl, by simp [there, HCX.out, HY.out], by simp⟩, ?_⟩
                    simp [intOf]; omega
                · obtain rfl : x = cnt := by omega
                  have hm3 : ∀ W, (Instr.makeSlice 29 (.int .i64 300) (.int .i64 300)).run Try.prog W = .ok (.slice (some ⟨W.heap.size, 0, none⟩) 300 300) (W.alloc (.cells (ints (fun _ => 0) 300).toArray 3)) := fun W => by
                    have := made_ints 300 (by omega) W
                    rw [cells_ints] at this
                    exact this
                  have HST := Lib.hid (seen_start HF.out)
                  generalize (ints (fun _ => 0) 300).toArray = z300 at hm3 HST
                  go_upto_region 38 with fail
                  generalize hsb : wc.heap.size = sb at HST ⊢
                  generalize wc.alloc (.cells z300 3) = w3 at HST ⊢
                  clear hm3 hsb
                  go_wp2_with fail
                  go_loopw [163] (fun i wz => ∃ (z : Nat) (sv : Nat → Nat), z ≤ x ∧ i = .int .i64 z ∧ SeenRel w b lb mb tb sb x rr A k h own c most tried sv z z wz) (fun i _ => x - (intOf i).toNat)
                  case atStart => exact ⟨0, _, Nat.zero_le _, rfl, HST.out⟩
                  case round =>
                    obtain ⟨z, sv, hz, rfl, S⟩ := hrel
                    have HS := Lib.hid S
                    by_cases hlz : z < x
                    · have hz1 : (z : Int) < (x : Int) := by omega
                      have hz13 : (z : Int) ≤ 13 := by have := HC2.out; omega
                      obtain ⟨pv, hpv⟩ : ∃ pv, pv = (if (c z).isSome then Value.pointer (some ⟨rr z, 0, none⟩) else .pointer none) := ⟨_, rfl⟩
                      have cl : wr.cell? ⟨lb, z, none⟩ = some pv := hpv ▸ (Frm.cell_row _ _ _ _ _ _ S.1.ll).trans (by simpa using ptrs_get rr c hlz)
                      cases hcx : c z with
                      | none =>
                        obtain rfl : pv = .pointer none := by rw [hpv, hcx]; rfl
                        have HN := Lib.hid (seen_none S hcx)
                        clear hpv hcx S HST
                        go_wp2_with fail
                        refine ⟨⟨z + 1, sv, by omega, by simp, HN.out⟩, ?_⟩
                        simp [intOf]; omega
                      | some C =>
                        obtain rfl : pv = .pointer (some ⟨rr z, 0, none⟩) := by rw [hpv, hcx]; rfl
                        have hn13 : x ≤ 13 := HC2.out
                        have hSM := seen_most hn13 S hlz hcx
                        have hsl : C.slot < 255 := (HF.out.inv.good z C hlz hcx).slot
                        obtain ⟨cm, fm⟩ := heap_ints S.1.mm hlz
                        rw [if_neg (Nat.lt_irrefl z)] at cm
                        obtain ⟨mx, hmx⟩ : ∃ m : Int, m = ((max (most z) (there c x) : Nat) : Int) := ⟨_, rfl⟩
                        rw [← hmx] at hSM
                        have HSM := Lib.hid hSM
                        have HPL := Lib.hid (place_any (hSM.1.at_ z C hlz hcx).1)
                        have HSL := Lib.hid hsl
                        have HCX := Lib.hid hcx
                        obtain ⟨ow, how⟩ : ∃ ow : Bool, ow = C.own := ⟨_, rfl⟩
                        obtain ⟨pseg, hpseg⟩ : ∃ p : Int, p = (if C.own then C.seg else 0) := ⟨_, rfl⟩
                        obtain ⟨psl, hpsl⟩ : ∃ p : Int, p = (if C.own then (C.slot : Int) else 0) := ⟨_, rfl⟩
                        rw [← hpseg, ← hpsl, ← how] at HPL
                        have HOW := Lib.hid how
                        have HPS := Lib.hid hpsl
                        have HYX := HY.out
                        have hmz : 0 ≤ (most z : Int) := Int.natCast_nonneg _
                        have hmm : (most z : Int) < y ∧ mx = y ∨ y < (most z : Int) ∧ mx = (most z : Int) ∨ y = (most z : Int) ∧ mx = (most z : Int) := by omega
                        clear hpv hcx S HST hSM hsl hmx how hpseg hpsl hn13 HYX
                        generalize (most z : Int) = mz at cm hmm hmz
                        go_upto_region 42 with fail
                        go_cut [] (fun W9 => W9 = wr.setCell ⟨mb, z, none⟩ (.int .i64 mx))
                        case first =>
                          rcases hmm with ⟨q1, rfl⟩ | ⟨q1, rfl⟩ | ⟨rfl, rfl⟩
                          all_goals go_wp2_with fail
                          all_goals go_meet
                          all_goals rfl
                        case rest =>
                          subst hcut
                          clear hmm cm fm hmz
                          cases ow with
                          | false =>
                            go_wp2_with (go_at_call 9; (with_reducible refine (HPL.out).mono ?_); rintro e w7 ⟨rfl, hT⟩; have HT7 := Lib.hid (hT.alloc (.cells #[.int .u64 pseg, .int .i64 psl] 34)); clear hT)
                            go_roundw
                            case rel => exact ⟨z + 1, sv, by omega, by simp, seen_no (HSM.out.step HT7.out)⟩
                            case measure => simp [intOf]; omega
                          | true =>
                            have hps2 : psl = (C.slot : Int) := by rw [HPS.out, ← HOW.out]; rfl
                            subst hps2
                            have sl0 : 0 ≤ (C.slot : Int) := Int.natCast_nonneg _
                            have sl1 : (C.slot : Int) ≤ 254 := by have := HSL.out; omega
                            go_wp2_with (go_at_call 9; (with_reducible refine (HPL.out).mono ?_); rintro e w7 ⟨rfl, hT⟩; have hT8 := hT.alloc (.cells #[.int .u64 pseg, .int .i64 (C.slot : Int)] 34); have hS8 := HSM.out.step hT8; obtain ⟨_, cs8, fs8⟩ := seen_zero HG.out hS8 hlz HCX.out HOW.out.symm HSL.out; have HY8 := Lib.hid (seen_yes HC2.out hS8 HCX.out HOW.out.symm HSL.out); clear hT hT8 hS8)
                            go_roundw
                            case rel => exact ⟨z + 1, _, by omega, by simp, HY8.out⟩
                            case measure => simp [intOf]; omega
                    · obtain rfl : z = x := by omega
                      have HFN : Hid (FewRel w b lb mb tb z (j + 1) wr) := Lib.hid ⟨rr, A, k, h, own, c, mosts c z most, tried, S.1.mcongr (fun i hi => by rw [if_pos hi]), HK.out, HG.out⟩
                      clear S HST
                      go_wp2_with fail
                      refine ⟨⟨j + 1, by omega, by simp, HFN.out⟩, ?_⟩
                      simp [intOf]; omega
        · obtain rfl : j = gl := by omega
          obtain ⟨rr, A, k, h, own, c, most, tried, F, hk, G⟩ := hrel
          have HT := Lib.hid F.kin.turn
          have HFA : Hid (Calls Try.prog 15 #[.pointer (some ⟨b, 0, none⟩)] wr fun e w' => e = .returned (.int .i64 0) ∧ wr = w') := Lib.hid (by
            obtain ⟨M, hs⟩ := F.kin.arel
            have := faults_any hs.at_
            rw [F.inv.clean] at this
            exact this)
          clear F hk G
          go_wp2_with (go_at_call 15; (with_reducible refine (HFA.out).mono ?_); rintro e w5 ⟨rfl, rfl⟩)
          go_ret
          exact ⟨rfl, HT.out⟩
end Clm
end Go.Proofs.Ytgodlddbocmcmaa
