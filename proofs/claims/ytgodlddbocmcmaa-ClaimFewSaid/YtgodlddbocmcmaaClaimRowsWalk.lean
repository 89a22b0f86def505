/- The walk of ClaimRows. -/
import Derived.Test.YtgodlddbocmcmaaClaimRows
set_option linter.unusedVariables false
set_option linter.unusedSimpArgs false
namespace Go.Proofs.Ytgodlddbocmcmaa
namespace Clm
open Go.RowKit Go.Maps Arn Pac

/-- Bytes in memory. -/
def U8At (w : World) (v : Value) (l : List Int) : Prop :=
  (v = .slice none 0 0 ∧ l = []) ∨ ∃ a c, v = .slice (some a) l.length c ∧ l.length ≤ c ∧ ∀ j u, (l.map (Value.int .u8))[j]? = some u → w.cell? (a.add j) = some u
theorem under_u8s : Try.prog.underlying 22 = some (.slice 5) := by kernel_rfl
theorem size_u8 (w : World) : (sizeOf 5).run Try.prog w = .ok 1 w := by kernel_rfl
theorem add_zero (a : Addr) : a.add 0 = a := by
  unfold Addr.add
  cases a with
  | mk k o s => split <;> simp_all
/-- x[:m]. -/
theorem head_slice (ga : Addr) (l m c : Nat) (h1 : m ≤ l) (h2 : l ≤ c) (w : World) : (Instr.slice 22 (.slice (some ga) l c) none (some (.int .i64 (m : Int))) none).run Try.prog w = .ok (.slice (some ga) m c) w := by
  have hu := run_underlying under_u8s w
  have hs := size_u8
  have h3 : ¬ c < m := by omega
  simp [Instr.slice, Instr.sliceBounds, Instr.sliceBound, go_sem, hu, hs, h3, asIntOf, add_zero]
/-- The first m bytes. -/
def BytesAt (W : World) (v : Value) (m : Nat) : Prop := (∃ ao c, v = .slice ao m c) ∧ (m = 0 ∨ ∃ ga c, v = .slice (some ga) m c ∧ ∀ i, i < m → ∃ z : Int, 0 ≤ z ∧ z < 256 ∧ W.cell? (ga.add i) = some (.int .u8 z))
theorem bytes_of {w : World} {ga : Addr} {gs : List Int} {c m : Nat} (h : ∀ j u, (gs.map (Value.int .u8))[j]? = some u → w.cell? (ga.add j) = some u) (hg : ∀ u, u ∈ gs → 0 ≤ u ∧ u < 256) (hm : m ≤ gs.length) : BytesAt w (.slice (some ga) m c) m := by
  refine ⟨⟨_, _, rfl⟩, .inr ⟨ga, c, rfl, fun i hi => ?_⟩⟩
  have hl : i < gs.length := by omega
  exact ⟨gs[i], (hg _ (List.getElem_mem hl)).1, (hg _ (List.getElem_mem hl)).2, h i _ (by simp [hl])⟩
theorem under_plcs : Try.prog.underlying 48 = some (.slice 34) := by kernel_rfl
theorem info_plcs : (Try.prog.info? 34).map (fun i => (i.zero, i.size, i.bytes)) = some (some (.agg #[.int .u64 0, .int .i64 0]), 2, 16) := by kernel_rfl
set_option maxRecDepth 100000 in
set_option maxHeartbeats 4000000 in
theorem rows_any (q : Nat) (gv : Value) (gs : List Int) (w : World) (hq : q < 256) (hg : U8At w gv gs) (hgs : ∀ u, u ∈ gs → 0 ≤ u ∧ u < 256) :
    Calls Try.prog 4 #[.int .u8 q, gv] w fun e w' => e = .returned (.bool true) ∧ Frm.Turn [] w w' := by
  have HF : Hid (Calls Try.prog 5 #[] w fun e w' => e = .returned (.bool true) ∧ Frm.Turn [] w w') := Lib.hid (first_any w)
  have HN : Hid (∀ W, Frm.Turn [] w W → Calls Try.prog 6 #[.int .i64 60000] W fun e w' => ∃ b, e = .returned (.tuple #[.pointer (some ⟨b, 0, none⟩), .int .i64 0]) ∧ Kin w b [] (Ar.new 60000) 0 w') :=
    Lib.hid fun W hT => (sin_new 60000 W (by omega)).mono fun e w' ⟨b, M, he, h2⟩ => ⟨b, he, M, ⟨h2.at_, fun k hk => Nat.le_trans hT.size (h2.new k hk), hT.trans h2.turn (by simp), h2.low, h2.born⟩, by simp⟩
  have HG := Lib.hid hg
  have HGS := Lib.hid hgs
  clear hg hgs
  obtain ⟨cnt, HC⟩ : ∃ c : Nat, Hid (c = 1 + q % 60) := ⟨_, Lib.hid rfl⟩
  go_enter Try.func4, Try.ntmps4
  go_wp2_with (first
    | (go_at_call 5; (with_reducible refine (HF.out).mono ?_); rintro e w1 ⟨rfl, hT⟩; have HT1 := Lib.hid hT; clear hT)
    | (go_at_call 6; (with_reducible refine (HN.out _ HT1.out).mono ?_); rintro e w2 ⟨b, rfl, h⟩; have HK := Lib.hid h; clear h))
  have e1 : (1 + (q : Int) % 60) = (cnt : Int) := by rw [HC.out]; omega
  have hc1 : 1 ≤ cnt := by rw [HC.out]; omega
  have hc2 : cnt ≤ 60 := by rw [HC.out]; omega
  rw [e1]
  have h00 : RowsRel w b 0 0 (.slice none 0 0) w2 := ⟨_, 0, fun _ => 0, fun _ => 0, by simpa [Value.ownBlock] using HK.out, Nat.le_refl _, inv_new (by omega) 1, rfl, by omega, fun _ _ => rfl, by omega, World.ownsRow_nil _ _ _ _⟩
  clear e1 HC HF HN HK HT1 hq
  obtain ⟨i0, hi, hz0, hz1, hz2⟩ := info_parts info_plcs
  go_loopw [8, 31] (fun v i wr => ∃ k : Nat, k ≤ cnt ∧ i = .int .i64 k ∧ RowsRel w b k (100 * k) v wr) (fun _ i _ => cnt - (intOf i).toNat)
  case atStart => exact ⟨0, Nat.zero_le _, rfl, h00⟩
  case round =>
    obtain ⟨k, hk, rfl, hrel⟩ := hrel
    have HREL := Lib.hid hrel
    clear h00
    by_cases hlt : k < cnt
    · obtain ⟨A, n, h, own, r1, r2, r3, r4, r5, r6, r7, r8⟩ := hrel
      obtain ⟨va, vc, rfl⟩ := Frm.row_form r8
      have HNW := Lib.hid (run_new (tok := (k : Int) + 1) r1 r2 r3 r4 (by omega) (by unfold W64; omega) k)
      have hk1 : (k : Int) < (cnt : Int) := by omega
      have hk2 : (k : Int) ≤ 60 := by omega
      have HQ := Lib.hid (And.intro r5 (And.intro r6 (And.intro r7 r8)))
      have HTW := Lib.hid r1.turn
      clear r1 r2 r3 r4 r5 r6 r7 r8 HREL
      go_wp2_with (go_at_call 7; (with_reducible refine (HNW.out).mono ?_); rintro e w3 ⟨r, rfl, hr, hrun, hT⟩; have HR0 := Lib.hid hr; have HRUN := Lib.hid hrun; have HT3 := Lib.hid hT; clear hrun hT hr)
      have HB : Hid (w.heap.size ≤ r) := Lib.hid (by have := HR0.out; have := HTW.out.size; omega)
      have HV : Hid (∀ q, (Value.slice va k vc).ownBlock = some q → q ∈ r :: (Value.slice va k vc).ownBlock.toList ∧ some q ≠ some r) := Lib.hid (fun q hq => ⟨by simp [hq], fun e => by
        cases e
        have := (HQ.out.2.2.2.lt r hq).2
        have := HR0.out
        omega⟩)
      go_loopw [39] (fun i wz => ∃ j : Nat, j ≤ 100 ∧ i = .int .i64 j ∧ RunRel w b r (r :: (Value.slice va k vc).ownBlock.toList) own h k ((k : Int) + 1) (100 * k) (k + 3 * sgN k + 4) j wz ∧ wz.ownsRow w.heap.size 34 2 (.slice va k vc) k (plcs h k)) (fun i _ => 100 - (intOf i).toNat)
      case atStart => exact ⟨0, Nat.zero_le _, rfl, HRUN.out, Frm.owns_turn HQ.out.2.2.2 HT3.out (by simp)⟩
      case round =>
        obtain ⟨j, hj, rfl, hrun, hrow⟩ := hrel
        clear HRUN HNW
        by_cases hlt2 : j < 100
        · have HST := Lib.hid (run_step hrun (by omega) (by simp) HB.out (HQ.out.2.1 k (Nat.le_refl _)) HQ.out.1 (by omega))
          have HROW := Lib.hid hrow
          have hj1 : (j : Int) < 100 := by omega
          clear hrun hrow
          go_wp2_with (go_at_call 13; (with_reducible refine (HST.out).mono ?_); rintro e w4 ⟨rfl, hg, hb⟩; have HG4 := Lib.hid hg; have HB4 := Lib.hid hb; clear hg hb)
          refine ⟨⟨j + 1, by omega, by simp, HG4.out, HB4.out.row HV.out HROW.out⟩, ?_⟩
          simp [intOf]; omega
        · obtain rfl : j = 100 := by omega
          have hsg : sgN k ≤ 5 := by have := sg_mono (s := k) (t := 60) (by omega) (by omega); rw [show sgN 60 = 5 by decide] at this; exact this
          obtain ⟨A1, h1, n1, seg, hend, hpl⟩ := run_end hrun (by omega)
          have HEND := Lib.hid hend
          have HP := Lib.hid hpl
          have HROW := Lib.hid hrow
          clear hrun hrow hpl hend hsg
          go_upto_region 17 with (first
            | (go_at_call 9; (with_reducible refine (HP.out).mono ?_); rintro e w4 ⟨rfl, ht⟩; have HT4 := Lib.hid ht; clear ht))
          have HO4 := Lib.hid (((Frm.owns_turn HROW.out HT4.out (by simp)).alloc (.cells #[.int .u64 seg, .int .i64 k] 34)).alloc (.cells #[.int .u64 seg, .int .i64 k] 34))
          have HC4 : Hid (∀ j u, [Value.int .u64 seg, .int .i64 k][j]? = some u → ((w4.alloc (.cells #[.int .u64 seg, .int .i64 k] 34)).alloc (.cells #[.int .u64 seg, .int .i64 k] 34)).cell? ((⟨w4.heap.size + 1, 0, none⟩ : Addr).add j) = some u) := Lib.hid (fun j u hu => by
            have hn := World.alloc_heap_new (w4.alloc (.cells #[.int .u64 seg, .int .i64 k] 34)) (.cells #[.int .u64 seg, .int .i64 k] 34)
            rw [World.size_alloc] at hn
            have ha : (⟨w4.heap.size + 1, 0, none⟩ : Addr).add j = ⟨w4.heap.size + 1, j, none⟩ := by unfold Addr.add; split <;> simp_all
            rw [ha, Frm.cell_row _ _ _ _ _ _ hn]
            simpa using hu)
          have HB4 : Hid (w.heap.size ≤ ((w4.alloc (.cells #[.int .u64 seg, .int .i64 k] 34)).alloc (.cells #[.int .u64 seg, .int .i64 k] 34)).heap.size) := Lib.hid (by have := HTW.out.size; have := HT3.out.size; have := HEND.out.kin.turn.size; have := HT4.out.size; simp; omega)
          go_wp2_with (at_builtin; refine wpList_append_own_at _ rfl (.tmp 57) (.tmp 59) 48 rfl w.heap.size 34 i0 (.agg #[.int .u64 0, .int .i64 0]) 2 16 under_plcs hi hz0 hz1 hz2 rfl (by decide) (.slice va k vc) k (plcs h k) rfl HO4.out ⟨w4.heap.size + 1, 0, none⟩ 1 1 [.int .u64 seg, .int .i64 k] (by rfl) rfl HC4.out (by simp [Value.oneCell']) (by unfold maxLen; omega) (by omega) HB4.out ?_; intro v5 w5 hown5 hg5 _ hl5; have HO5 := Lib.hid hown5; have HG5 := Lib.hid hg5; have HL5 := Lib.hid hl5; clear hown5 hg5 hl5)
          refine ⟨⟨k + 1, by omega, by simp, rows_next (N := 100 * (k + 1)) HEND.out (by omega) HROW.out HQ.out.1 HQ.out.2.1 HQ.out.2.2.1 ((HT4.out.alloc _).alloc _) HG5.out HL5.out HO5.out⟩, ?_⟩
          simp [intOf]; omega
    · obtain rfl : k = cnt := by omega
      clear hlt hk
      have HTW := Lib.hid (show Frm.Turn [] w wr from hrel.choose_spec.choose_spec.choose_spec.choose_spec.1.turn)
      clear hrel
      go_upto_region 20 with fail
      go_cut [67, 68, 69] (fun s67 s68 s69 W2 => wr = W2 ∧ s69 = .int .i64 0 ∧ ∃ m : Nat, m ≤ 20 ∧ s68 = .int .i64 m ∧ BytesAt w s67 m)
      case first =>
        rcases HG.out with ⟨rfl, hgn⟩ | ⟨ga, gc, rfl, hgl, hgc⟩
        · go_wp2_with fail
          go_meet
          exact ⟨rfl, rfl, 0, by omega, rfl, ⟨_, _, rfl⟩, .inl rfl⟩
        · have HX := Lib.hid (fun m c (hm : m ≤ gs.length) => bytes_of (c := c) hgc HGS.out hm)
          by_cases hle : gs.length ≤ 20
          · have hsl := head_slice ga gs.length gs.length gc (Nat.le_refl _) hgl
            have HM := Lib.hid hle
            have hle' : (gs.length : Int) ≤ 20 := by omega
            clear hle hgl hgc
            go_wp2_with fail
            go_meet
            exact ⟨rfl, rfl, _, HM.out, rfl, HX.out _ _ (Nat.le_refl _)⟩
          · have hsl : ∀ W, (Instr.slice 22 (.slice (some ga) gs.length gc) none (some (.int .i64 20)) none).run Try.prog W = .ok (.slice (some ga) 20 gc) W := head_slice ga gs.length 20 gc (by omega) hgl
            have HM : Hid (20 ≤ gs.length) := Lib.hid (by omega)
            have hle' : (20 : Int) < (gs.length : Int) := by omega
            clear hle hgl hgc
            go_wp2_with fail
            go_meet
            exact ⟨rfl, rfl, 20, Nat.le_refl _, rfl, HX.out _ _ HM.out⟩
      case rest =>
        obtain ⟨rfl, rfl, m, hm, rfl, hby⟩ := hcut
        obtain ⟨⟨ao, sc, rfl⟩, hby⟩ := hby
        have HBY := Lib.hid hby
        have HM := Lib.hid hm
        obtain ⟨A, n, h, own, r1, r2, r3, r4, r5, r6, r7, r8⟩ := HREL.out
        have hst : GoneRel w b k u8 0 k wr := ⟨A, n, h, own, r1, by omega, r3, r4, Nat.le_refl _, r5, r6 k (Nat.le_refl _), r7, r8⟩
        clear hby hm HREL r1 r2 r3 r4 r5 r6 r7 r8
        go_wp2_with fail
        go_loopw [13, 69] (fun l i wz => ∃ j L : Nat, j ≤ m ∧ i = .int .i64 j ∧ l = .int .i64 L ∧ GoneRel w b k u8 j L wz) (fun _ i _ => m - (intOf i).toNat)
        case atStart => exact ⟨0, k, Nat.zero_le _, rfl, rfl, hst⟩
        case round =>
          obtain ⟨j, L, hj, rfl, rfl, hgo⟩ := hrel
          clear hst
          by_cases hlt : j < m
          · have hj1 : (j : Int) < (m : Int) := by omega
            have hj20 : (j : Int) ≤ 20 := by have := HM.out; omega
            rcases HBY.out with e | ⟨ga, c', e, hcell⟩
            · omega
            · cases e
              obtain ⟨z, hz0', hz1', hzc⟩ := hcell j hlt
              obtain ⟨A, n, h, own, r1, r2, r3, r4, r5, r6, r7, r8, r9⟩ := hgo
              have hcz := r1.turn.cell hzc (by simp)
              obtain ⟨va, vc, rfl⟩ := Frm.row_form r9
              have hk0 : (0 : Int) < (k : Int) := by omega
              obtain ⟨g, hg⟩ : ∃ g, va = some ⟨g, 0, none⟩ := by
                rcases r9.2 with ⟨e, e2⟩ | ⟨g, cap, cur, e, _⟩
                · omega
                · cases e; exact ⟨g, rfl⟩
              subst hg
              obtain ⟨s, hs⟩ : ∃ s : Nat, z % (k : Int) = (s : Int) := ⟨(z % (k : Int)).toNat, by have := Int.emod_nonneg z (show (k : Int) ≠ 0 by omega); omega⟩
              have hsk : s < k := by have := Int.emod_lt_of_pos z hk0; omega
              have p0 := (r9.cellAt (s * 2) (by omega)).trans (plcs_get h k s hsk).1
              have p1 := (r9.cellAt (s * 2 + 1) (by omega)).trans (plcs_get h k s hsk).2
              have HW := Lib.hid (fun W' => RWord_any (h (sgN s)) s W' (by omega))
              have q1 := sg_facts (s := s) (by omega)
              have HWR := Lib.hid (fun W' (hT : Frm.Turn [] wr W') => kin_write (r1.step hT) (by omega) (h (sgN s)) (5 * (ofN s : Int)) 0 (h_wrd r3 q1.1) (wf_small (by omega) (by omega)) w64_zero)
              have HGN := Lib.hid (fun w' => gone_next (w := w) (b := b) (v := .slice (some ⟨g, 0, none⟩) k vc) (w' := w') hc2 r2 r3 r4 r5 r6 r7 r8 r9 hsk)
              have hsk1 : (s : Int) < (k : Int) := by omega
              clear r1 r2 r3 r4 r5 r6 r7 r8 r9 q1
              go_upto_region 24 with fail
              rw [hs]
              clear hs
              have HSK := Lib.hid hsk
              generalize h (sgN s) = sg at p0 HW HWR HGN
              generalize 5 * (ofN s : Int) = y at HW HWR HGN
              by_cases hls : L ≤ s
              · have hls' : (L : Int) ≤ (s : Int) := by omega
                have HLS := Lib.hid hls
                clear hls hsk
                go_wp2_with (first
                  | (go_at_call 11; (with_reducible refine (HW.out _).mono ?_); rintro e w3 ⟨rfl, hT⟩; have HT3 := Lib.hid hT; clear hT)
                  | (go_at_call 10; (with_reducible refine (HWR.out _ HT3.out).mono ?_); rintro e w4 ⟨rfl, hk4, hb4⟩; have HK4 := Lib.hid hk4; have HB4 := Lib.hid hb4; clear hk4 hb4))
                refine ⟨⟨j + 1, L, by omega, by simp, rfl, ?_⟩, ?_⟩
                · have := HGN.out _ HK4.out (HB4.out.pre HT3.out)
                  rw [Nat.min_eq_left HLS.out] at this
                  exact this
                · simp [intOf]; omega
              · have hls' : (s : Int) < (L : Int) := by omega
                have HLS := Lib.hid hls
                clear hls hsk
                go_wp2_with (first
                  | (go_at_call 11; (with_reducible refine (HW.out _).mono ?_); rintro e w3 ⟨rfl, hT⟩; have HT3 := Lib.hid hT; clear hT)
                  | (go_at_call 10; (with_reducible refine (HWR.out _ HT3.out).mono ?_); rintro e w4 ⟨rfl, hk4, hb4⟩; have HK4 := Lib.hid hk4; have HB4 := Lib.hid hb4; clear hk4 hb4))
                refine ⟨⟨j + 1, s, by omega, by simp, rfl, ?_⟩, ?_⟩
                · have := HGN.out _ HK4.out (HB4.out.pre HT3.out)
                  rw [Nat.min_eq_right (by have := HLS.out; omega)] at this
                  exact this
                · simp [intOf]; omega
          · obtain rfl : j = m := by omega
            obtain ⟨A, n, h, own, r1, r2, r3, r4, r5, r6, r7, r8, r9⟩ := hgo
            have HNW := Lib.hid (run_new (N := 100 * k + j) (tok := 99) r1 r2 r3 r4 (by omega) (by unfold W64; omega) L)
            have HTW2 := Lib.hid r1.turn
            have HL := Lib.hid (And.intro r5 (And.intro r6 r7))
            have HJ := HM.out
            clear r1 r2 r3 r4 r5 r6 r7 r8 r9 hlt hj HBY
            go_wp2_with (go_at_call 7; (with_reducible refine (HNW.out).mono ?_); rintro e w3 ⟨r, rfl, hr, hrun, hT⟩; have HR0 := Lib.hid hr; have HRUN := Lib.hid hrun; have HT3 := Lib.hid hT; clear hrun hT hr)
            have HB : Hid (w.heap.size ≤ r) := Lib.hid (by have := HR0.out; have := HTW2.out.size; omega)
            go_loopw [90] (fun i wz => ∃ j2 : Nat, j2 ≤ 100 ∧ i = .int .i64 j2 ∧ RunRel w b r (r :: u8.ownBlock.toList) own h L 99 (100 * k + j) (L + 3 * sgN L + 4) j2 wz) (fun i _ => 100 - (intOf i).toNat)
            case atStart => exact ⟨0, Nat.zero_le _, rfl, HRUN.out⟩
            case round =>
              obtain ⟨j2, hj2, rfl, hrun⟩ := hrel
              clear HRUN HNW
              by_cases hlt2 : j2 < 100
              · have HST := Lib.hid (run_step hrun (by omega) (by simp) HB.out HL.out.2.2 HL.out.2.1 (by have := HL.out.1; omega))
                have hj1 : (j2 : Int) < 100 := by omega
                clear hrun
                go_wp2_with (go_at_call 13; (with_reducible refine (HST.out).mono ?_); rintro e w4 ⟨rfl, hg, hb⟩; have HG4 := Lib.hid hg; clear hg hb)
                refine ⟨⟨j2 + 1, by omega, by simp, HG4.out⟩, ?_⟩
                simp [intOf]; omega
              · obtain rfl : j2 = 100 := by omega
                have hsg : sgN L ≤ 5 := by have := sg_mono (s := L) (t := 60) (by omega) (by have := HL.out.1; omega); rw [show sgN 60 = 5 by decide] at this; exact this
                obtain ⟨A1, h1, n1, seg, hend, hpl⟩ := run_end hrun (by have := HL.out.1; omega)
                have HP := Lib.hid hpl
                have HTE := Lib.hid hend.kin.turn
                have HFA : Hid (∀ W', Frm.Turn [] wr W' → Calls Try.prog 15 #[.pointer (some ⟨b, 0, none⟩)] W' fun e w' => e = .returned (.int .i64 0) ∧ W' = w') := Lib.hid (fun W' hT => by
                  obtain ⟨M, hs⟩ := (hend.kin.step hT).arel
                  have := faults_any hs.at_
                  rw [hend.inv.clean] at this
                  exact this)
                clear hrun hpl hend hsg
                go_wp2_with (first
                  | (go_at_call 9; (with_reducible refine (HP.out).mono ?_); rintro e w4 ⟨rfl, ht⟩; have HT4 := Lib.hid (ht.alloc (.cells #[.int .u64 seg, .int .i64 L] 34)); clear ht)
                  | (go_at_call 15; (with_reducible refine (HFA.out _ HT4.out).mono ?_); rintro e w5 ⟨rfl, rfl⟩))
                go_ret
                exact ⟨rfl, HTE.out.trans HT4.out (by simp)⟩
end Clm
end Go.Proofs.Ytgodlddbocmcmaa
