/- Law ArenaPlays: the walk over its rounds. -/
import Derived.Test.YtgjgoflkbcmgnaaArenaPlaysEnd
set_option linter.unusedVariables false
set_option linter.unusedSimpArgs false
namespace Go.Proofs.Ytgjgoflkbcmgnaa
namespace Arn
open Go.RowKit Hp Go.Maps
set_option maxRecDepth 100000 in
set_option maxHeartbeats 64000000 in
theorem plays_some (cap : Nat) (most : Int) (a0 : Option Addr) (len lc : Nat) (w : World) (hops : 0 < len → ∃ bl off, a0 = some ⟨bl, off, none⟩ ∧ OpsAt w bl off len ∧ ∀ i, i < len → ∀ x, OpAt w bl (off + i * 9) x → x.wn ≤ 9223372036854775807) (hlen : len ≤ 9223372036854775807) (hc : cap ≤ 60000) :
    Calls Try.prog 3 #[.int .i64 cap, .slice a0 len lc, .int .i64 most] w fun e w' => e = .returned (.bool true) ∧ Frm.Turn [] w w' := by
  have HF := Lib.hid (first_any w)
  have HG : Hid (∀ W, Frm.Turn [] w W → Calls Try.prog 7 #[.slice a0 len lc] W fun e w' => ∃ r : Bool, e = .returned (.bool r) ∧ (r = false → len ≤ 100) ∧ Frm.Turn [] w w') :=
    Lib.hid fun W hT => (great_any a0 len lc W (fun hp => (hops hp).elim fun bl h => h.elim fun off h => ⟨bl, off, h.1, h.2.1.step hT⟩) hlen).mono (by rintro e w' ⟨r, h1, h2, h3⟩; exact ⟨r, h1, h2, hT.trans h3 (by simp)⟩)
  have HN : Hid (∀ W, Calls Try.prog 8 #[.int .i64 (cap : Int)] W fun e w' => ∃ b M, e = .returned (.tuple #[.pointer (some ⟨b, 0, none⟩), .int .i64 0]) ∧ Sin W b M (Ar.new cap) 0 w') := Lib.hid fun W => sin_new cap W hc
  have HOPS := Lib.hid hops
  have h1 : decide ((cap : Int) < 0) = false := by simp
  have h2 : decide (60000 < (cap : Int)) = false := by simp; omega
  clear hops
  go_enter Try.func3, Try.ntmps3
  go_upto_region 3 with (go_at_call 6; (with_reducible refine (HF.out).mono ?_); rintro e wn ⟨rfl, hT⟩; have HT := Lib.hid hT; clear hT)
  go_wp2_with (go_at_call 7; (with_reducible refine (HG.out _ HT.out).mono ?_); rintro e w1 ⟨r, rfl, hr, hT⟩; have HT1 := Lib.hid hT; have HR := Lib.hid hr; clear hT hr)
  · go_ret
    exact ⟨rfl, HT1.out⟩
  have hrf : r = false := by cases r <;> simp_all
  have hl := HR.out hrf
  clear HR hlen hrf
  go_upto_region 13 with (go_at_call 8; (with_reducible refine (HN.out _).mono ?_); rintro e w2 ⟨b, M, rfl, h⟩; have H0 := Lib.hid h; clear h)
  have hp0 := many_one H0.out
  unfold cs0 at hp0
  generalize (w2.alloc _).alloc _ = W4 at hp0 ⊢
  generalize w2.heap.size = g0 at hp0 ⊢
  have HP0 := Lib.hid hp0
  clear hp0
  go_wp2
  go_loopw [17, 18, 174] (fun s17 s18 i wr => ∃ j : Nat, j ≤ len ∧ i = .int .i64 j ∧ PlayS w1 j s17 s18 wr) (fun _ _ i _ => len - (intOf i).toNat)
  case atStart => exact ⟨0, by omega, rfl, HP0.out⟩
  case round =>
    obtain ⟨j, hj, rfl, st, ga, ca, gw, cw, rfl, rfl, hM, hA⟩ := hrel
    by_cases hlt : j < len
    · obtain ⟨bl, off, rfl, hops, hwna⟩ := HOPS.out (by omega)
      have hTr : Frm.Turn [] w wr := HT1.out.trans hM.turn (by simp)
      obtain ⟨y, hy0⟩ := hops j hlt
      have hy := hy0.step hTr
      have HWN := Lib.hid (hwna j hlt y hy0)
      have HYW := Lib.hid hy0.words
      have c0 := hy.c0; have c1 := hy.c1; have c2 := hy.c2; have c3 := hy.c3; have c4 := hy.c4; have c5 := hy.c5; have c6 := hy.c6; have c7 := hy.c7; have c8 := hy.c8
      have HTr := Lib.hid hTr
      have HM := Lib.hid hM
      have HA := Lib.hid hA
      have HY := Lib.hid hy
      obtain ⟨i, hi, hidx⟩ := idx_any y.a st.length hM.pos hM.few
      have hpos : 0 < st.length := hM.pos
      have hfew : st.length ≤ 4 := hM.few
      clear hM hA hTr hy hy0 hops hwna
      go_upto_region 16 with fail
      obtain ⟨W1, HW1⟩ : ∃ W1, Hid (W1 = wr.alloc (.cells #[.int .i64 y.k, .int .i64 y.a, .int .i64 y.o, .slice y.ao y.wn y.wc, .int .u64 y.h, .int .u64 y.xb, .int .i64 y.xa, .int .u64 y.n, .int .u64 y.m] 57)) := ⟨_, Lib.hid rfl⟩
      rw [← HW1.out]
      obtain ⟨Bo, HBo⟩ : ∃ Bo, Hid (Bo = wr.heap.size) := ⟨_, Lib.hid rfl⟩
      rw [← HBo.out]
      have hbox : BoxOp W1 Bo y := by rw [HW1.out, HBo.out]; exact BoxOp.new wr y
      have hT1 : Frm.Turn [] wr W1 := by rw [HW1.out]; exact (Frm.Turn.refl [] wr).alloc _
      have HBX := Lib.hid hbox
      have HT1r := Lib.hid hT1
      obtain ⟨d0, d1, d2, d3, d4, d5, d6, d7, d8⟩ := hbox.cells
      obtain ⟨x, hx⟩ : ∃ x, st[i]? = some x := ⟨_, List.getElem?_eq_getElem hi⟩
      have HX := Lib.hid hx
      have HM1 := Lib.hid (HM.out.step hT1)
      clear c0 c1 c2 c3 c4 c5 c6 c7 c8 hbox hT1 hx
      go_upto_region 17 with fail
      simp only [hidx]
      clear d0 d1 d2 d3 d4 d5 d6 d7 d8 hidx
      have HRS := Lib.hid (fun (W : World) (h : Frm.Turn [] W1 W) => (show W.cell? ⟨ga, i, none⟩ = some (.pointer (some ⟨x.b, 0, none⟩)) ∧ W.rangeAt gw (i * 20) x.cs.toList from ⟨(HM1.out.step h).ptr_at HX.out, (HM1.out.step h).range_at HX.out⟩))
      have HZ := Lib.hid (HM1.out.each i x HX.out).size
      obtain ⟨fs, hfs⟩ := struct_of under_refA
      have HFS := Lib.hid hfs
      have HI20 : Hid ((Try.prog.info? 54).map (·.size) = some x.cs.toList.length) := Lib.hid (by rw [Array.length_toList, HZ.out]; exact info_refA)
      clear hfs
      refine wp_region_held_drew (S := fun w' => w'.cell? ⟨ga, i, none⟩ = some (.pointer (some ⟨x.b, 0, none⟩)) ∧ w'.rangeAt gw (i * 20) x.cs.toList) (by kernel_rfl) ?_ (fun hHeld => ?_)
      · exact HRS.out _ (Frm.Turn.refl [] W1).drew
      refine wpAnyH_take (i := 0) (v := ?_) rfl (by kernel_rfl) (by kernel_rfl) (by kernel_rfl) (fun _ _ _ h => h) (Or.inl ⟨by rfl, ?_⟩) (by assumption) ?_
      rotate_left
      · (intro w hSw; (try dsimp only at hSw); go_simp; try with_reducible rfl)
      simp only [Act.put, List.getElem_toArray, List.getElem_cons_succ, List.getElem_cons_zero, List.setIfInBounds_toArray, List.set_cons_zero, List.set_cons_succ]
      refine wpAnyH_take (i := 1) (v := ?_) rfl (by kernel_rfl) (by kernel_rfl) (by kernel_rfl) (fun _ _ _ h => h) (Or.inl ⟨by rfl, ?_⟩) (by assumption) ?_
      rotate_left
      · (intro w hSw; (try dsimp only at hSw); go_simp; try with_reducible rfl)
      simp only [Act.put, List.getElem_toArray, List.getElem_cons_succ, List.getElem_cons_zero, List.setIfInBounds_toArray, List.set_cons_zero, List.set_cons_succ]
      refine wpAnyH_take (i := 2) (v := ?_) rfl (by kernel_rfl) (by kernel_rfl) (by kernel_rfl) (fun _ _ _ h => h) (Or.inl ⟨by rfl, ?_⟩) (by assumption) ?_
      rotate_left
      · (intro w hSw; (try dsimp only at hSw); go_simp; try with_reducible rfl)
      simp only [Act.put, List.getElem_toArray, List.getElem_cons_succ, List.getElem_cons_zero, List.setIfInBounds_toArray, List.set_cons_zero, List.set_cons_succ]
      refine wpAnyH_take (i := 3) (v := ?_) rfl (by kernel_rfl) (by kernel_rfl) (by kernel_rfl) (fun _ _ _ h => h) (Or.inl ⟨by rfl, ?_⟩) (by assumption) ?_
      rotate_left
      · (intro w hSw; (try dsimp only at hSw); go_simp; try with_reducible rfl)
      simp only [Act.put, List.getElem_toArray, List.getElem_cons_succ, List.getElem_cons_zero, List.setIfInBounds_toArray, List.set_cons_zero, List.set_cons_succ]
      refine wpAnyH_take (i := 4) (v := ?_) rfl (by kernel_rfl) (by kernel_rfl) (by kernel_rfl) (fun _ _ _ h => h) (Or.inl ⟨by rfl, ?_⟩) (by assumption) ?_
      rotate_left
      · (intro w hSw; (try dsimp only at hSw); go_simp; try with_reducible rfl)
      simp only [Act.put, List.getElem_toArray, List.getElem_cons_succ, List.getElem_cons_zero, List.setIfInBounds_toArray, List.set_cons_zero, List.set_cons_succ]
      refine wpAnyH_take (i := 5) (v := ?_) rfl (by kernel_rfl) (by kernel_rfl) (by kernel_rfl) (fun _ _ _ h => h) (Or.inl ⟨by rfl, ?_⟩) (by assumption) ?_
      rotate_left
      · (intro w hSw; (try dsimp only at hSw); go_simp; try with_reducible rfl)
      simp only [Act.put, List.getElem_toArray, List.getElem_cons_succ, List.getElem_cons_zero, List.setIfInBounds_toArray, List.set_cons_zero, List.set_cons_succ]
      refine wpAnyH_take (i := 6) (v := ?_) rfl (by kernel_rfl) (by kernel_rfl) (by kernel_rfl) (fun _ _ _ h => h) (Or.inl ⟨by rfl, ?_⟩) (by assumption) ?_
      rotate_left
      · (intro w hSw; (try dsimp only at hSw); go_simp; try with_reducible rfl)
      simp only [Act.put, List.getElem_toArray, List.getElem_cons_succ, List.getElem_cons_zero, List.setIfInBounds_toArray, List.set_cons_zero, List.set_cons_succ]
      refine wpAnyH_take (i := 7) (v := _) rfl (by kernel_rfl) (by kernel_rfl) (by kernel_rfl) (fun _ _ _ h => h)
          (yieldsIf_load_mid (by rfl) _ _ rfl gw (i * 20) rfl x.cs.toList _ (fun w hw => hw.2) HFS.out rfl HI20.out) (by assumption) ?_
      simp only [Act.put, List.setIfInBounds_toArray, List.set_cons_zero, List.set_cons_succ, Array.toArray_toList]
      refine wpAnyH_ready (rs := [8]) (by kernel_rfl) (by simp) ?_
      refine AllReadyH.cons rfl (fun K hK => ?_) AllReadyH.nil
      simp only [List.getElem_toArray, List.getElem_cons_succ, List.getElem_cons_zero]
      go_simp
      refine hK _ _ (HRS.out _ (((Frm.Turn.refl [] W1).alloc _).drew)) (fun hHeld => ?_)
      refine wpAnyH_take (i := 9) (v := ?_) rfl (by kernel_rfl) (by kernel_rfl) (by kernel_rfl) (fun _ _ _ h => h) (Or.inl ⟨by rfl, ?_⟩) (by assumption) ?_
      rotate_left
      · (intro w hSw; (try dsimp only at hSw); go_simp; try with_reducible rfl)
      simp only [Act.put, List.getElem_toArray, List.getElem_cons_succ, List.getElem_cons_zero, List.setIfInBounds_toArray, List.set_cons_zero, List.set_cons_succ]
      refine wpAnyH_ready (rs := [10]) (by kernel_rfl) (by simp) ?_
      refine AllReadyH.cons rfl (fun K2 hK2 => ?_) AllReadyH.nil
      simp only [List.getElem_toArray, List.getElem_cons_succ, List.getElem_cons_zero]
      refine wp_store_row 54 (.tmp 23) (.tmp 193) rfl W1.heap.size x.cs rfl rfl 54 zero20 (show _ = _ from World.alloc_heap_new W1 _) (by rw [HZ.out]; exact info_refA) (by rw [HZ.out]; rfl) (ref_size (HM1.out.each i x HX.out).ref).2 ?_
      refine hK2 _ _ (HRS.out _ (setRow_turn (((Frm.Turn.refl [] W1).alloc _).drew) (.inr (Nat.le_refl _)) _)) (fun hHeld => ?_)
      refine wpAnyH_done (by kernel_rfl) ?_ _
      simp only [Act.put]
      have hT3 : Frm.Turn [] W1 (((W1.alloc (.cells zero20 54)).drew).setRow W1.heap.size x.cs) := setRow_turn (((Frm.Turn.refl [] W1).alloc _).drew) (.inr (Nat.le_refl _)) _
      have hb3 : (((W1.alloc (.cells zero20 54)).drew).setRow W1.heap.size x.cs).heap[W1.heap.size]? = some (.cells x.cs 54 (0, 0)) := setRow_heap _ _ _ _ _ _ (World.alloc_heap_new W1 _)
      unfold zero20 at hT3 hb3
      generalize ((W1.alloc _).drew).setRow W1.heap.size x.cs = W3 at hT3 hb3 ⊢
      obtain ⟨bw, HBW⟩ : ∃ bw, Hid (bw = W1.heap.size) := ⟨_, Lib.hid rfl⟩
      rw [← HBW.out] at hb3 ⊢
      have HB3 := Lib.hid hb3
      have HT3 := Lib.hid hT3
      have hbx3 := HBX.out.turn hT3 (by simp)
      obtain ⟨d0, d1, d2, d3, d4, d5, d6, d7, d8⟩ := hbx3.cells
      have HBX3 := Lib.hid hbx3
      have hE3 := (HM1.out.step hT3).each i x HX.out
      obtain ⟨bv, bl3, hbv, hblk, hbL⟩ := hE3.ref.blocks
      obtain ⟨va, vc, rfl⟩ := hblk.form
      have hokR := hE3.sin.at_.ok
      have hRA := HA.out i x HX.out
      have e13 : W3.cell? ⟨bw, 13, none⟩ = some (.slice va bl3.length vc) := by rw [Frm.cell_row _ _ _ _ _ _ hb3]; exact hbv
      have hl60 : bl3.length ≤ 60000 := by
        have e1 : bl3.length = x.A.L.length := by rw [← hRA, ← hbL]; simp
        have h3 := length_le_used (fun z hz => (hokR.len z hz).1)
        have h4 := hokR.top
        have h5 := hokR.peak
        have h6 := hokR.cap
        omega
      have h64b : ∀ z, z ∈ bl3 → W64 z.1.h := fun z hz => by
        have hm : z.1 ∈ x.A.L := by rw [← hRA, ← hbL]; exact List.mem_map.2 ⟨z, hz, rfl⟩
        have := hokR.hnd _ hm; have := hokR.births; unfold W64; omega
      have HOF := Lib.hid (ofR_flat y HY.out.ok va vc bl3 W3 hblk hl60 h64b)
      clear hb3 hT3 hbx3 hE3 hbv hblk hbL hokR hRA hl60 h64b
      go_upto_region 18 with fail
      go_cut [20] from 194 to 197 (fun s20 W => s20 = .pointer (some ⟨Bo, 0, none⟩) ∧ ∃ y2 : OpV, Same4 y y2 ∧ BoxOp W Bo y2 ∧ Frm.Turn [Bo] W3 W)
      case first =>
        go_wp2_with (go_at_call 26; go_must (with_reducible refine (HOF.out).mono ?_); rintro e w6 ⟨y2, hy4, rfl, hT6⟩; have HY4 := Lib.hid hy4; have HT6 := Lib.hid hT6; have HB6 := Lib.hid (BoxOp.turn HBX3.out hT6 (by simp)); clear hy4 hT6; obtain ⟨j0, j1, j2, j3, j4, j5, j6, j7, j8⟩ := HB6.out.cells; have l0 := HB6.out.thaw 0; have l1 := HB6.out.thaw 1; have l2 := HB6.out.thaw 2; have l3 := HB6.out.thaw 3; have l4 := HB6.out.thaw 4; have l5 := HB6.out.thaw 5; have l6 := HB6.out.thaw 6; have l7 := HB6.out.thaw 7; have l8 := HB6.out.thaw 8)
        go_meet
        exact ⟨rfl, y2, HY4.out, (BoxOp.store HB6.out).1, (HT6.out.mono (by simp)).trans (BoxOp.store HB6.out).2 (fun k hk => .inl hk)⟩
      case rest =>
        obtain ⟨rfl, y2, hy4, hB2, hT6⟩ := hcut
        refine wp_back (by assumption) ?_
        refine wp_seq_cut fun K57 hK57 => ?_
        have HK57 := Lib.hid hK57
        clear hK57
        have hTw : Frm.Turn [] wr wc := ((HT1r.out.trans HT3.out (by simp)).mono (by simp)).trans hT6 (fun k hk => .inr (by simp at hk; rw [hk, HBo.out]; exact Nat.le_refl _))
        have hBb : Bo ≠ bw := by have h1 := (Array.getElem?_eq_some_iff.1 HBX.out).1; rw [HBW.out]; omega
        have hsz1 := HT1r.out.size
        have hr0 := rnd_start HM.out HX.out hTw (by rw [HBo.out]; exact Nat.le_refl _) (by rw [HBW.out]; exact hsz1) hBb hB2 (hT6.keep HB3.out (by simp; exact hBb.symm))
        have hRA := HA.out i x HX.out
        rw [hRA] at hr0
        have HOK := Lib.hid hy4.ok
        obtain ⟨ws, hws⟩ : ∃ ws, (∀ W, Frm.Turn [] w1 W → WordsAt W (.slice y2.ao y2.wn y2.wc) ws) ∧ (∀ u, u ∈ ws → W64 u) ∧ ws.length ≤ 9223372036854775807 ∧ (ws ≠ [] → ∀ k, (Value.slice y2.ao y2.wn y2.wc).ownBlock = some k → k < w1.heap.size) := by
          rw [hy4.ao, hy4.wn, hy4.wc]
          obtain ⟨ws, e1, e2, e3⟩ := HYW.out
          refine ⟨ws, fun W hW => e1.turn (HT1.out.trans hW (by simp)) (by simp), e2, ?_, fun hne k hk => Nat.lt_of_lt_of_le (e3 hne k hk) HT1.out.size⟩
          have hl1 := HWN.out
          rcases e1 with ⟨e, rfl⟩ | ⟨a, c, e, _⟩
          · simp
          · simp only [Value.slice.injEq] at e; omega
        have HWS := Lib.hid hws
        have HR0 := Lib.hid hr0
        have HY4 := Lib.hid hy4
        have hq := hr0.op.cells
        have hok1 := (hr0.many.each i x hr0.at_).sin.at_.ok
        have hlo1 := (hr0.many.each i x hr0.at_).sin.low
        have hbi1 := (hr0.many.each i x hr0.at_).sin.born
        have HOK1 := Lib.hid hok1
        have HLO1 : Hid (x.A.Low 1000) := Lib.hid (hlo1.mono (by omega))
        have HBI1 : Hid (x.A.births ≤ 100000000) := Lib.hid (by omega)
        obtain ⟨c0, c1, c2, c3, c4, c5, c6, c7, c8⟩ := hq
        clear hws hr0 hy4 hok1 hlo1 hbi1 hB2 hT6 hTw hRA
        go_cut [17, 18, 174] from 174 to 371 (fun s17 s18 s174 W => s174 = .int .i64 j ∧ SwC w1 (j + 1) i bw s17 s18 W)
        case first =>
          obtain ⟨kd, hkd⟩ : ∃ kd, (IntKind.u64.wrap y2.k).tmod 8 = kd := ⟨_, rfl⟩
          have hk8 : 0 ≤ kd ∧ kd < 8 := by
            have h0 : 0 ≤ IntKind.u64.wrap y2.k := by simp [IntKind.wrap, IntKind.signed, IntKind.bits]; omega
            rw [← hkd]
            exact ⟨Int.tmod_nonneg _ h0, Int.tmod_lt_of_pos _ (by omega)⟩
          have hkc : kd = 0 ∨ kd = 1 ∨ kd = 2 ∨ kd = 3 ∨ kd = 4 ∨ kd = 5 ∨ kd = 6 ∨ kd = 7 := by omega
          clear hk8
          rcases hkc with rfl | rfl | rfl | rfl | rfl | rfl | rfl | rfl
          · as_aux_lemma =>
              have HAC := Lib.hid (fun (W : World) (n1 : Nat) (st1 : List One) (x1 : One) (R1 : Ar) (C1 : Array Value) (G1 : List Nat) (h : Rnd w1 W n1 st1 ga ca gw cw i x1 Bo y2 bw R1 C1 G1) (hn1 : n1 ≤ 1000) => by
                have hs := (h.many.each i x1 h.at_).sin
                have hwv0 := HWS.out.1; have hw64 := HWS.out.2.1; have hwl := HWS.out.2.2.1; have hwb := HWS.out.2.2.2
                have hwv : WordsAt W (.slice y2.ao y2.wn y2.wc) ws := hwv0 W h.many.turn
                have hwf : ws ≠ [] → ∀ k, (Value.slice y2.ao y2.wn y2.wc).ownBlock = some k → k ∉ x1.M.foot x1.b := fun hne k hk hk' => by have e1 := hwb hne k hk; have e2 := hs.new k hk'; omega
                exact h.arena (m := n1 + 1) (by omega) (sin_lay hs (by omega) hwv hwf hw64))
              have HRC := Lib.hid (fun (W : World) (n1 : Nat) (st1 : List One) (x1 : One) (R1 : Ar) (C1 : Array Value) (G1 : List Nat) (h : Rnd w1 W n1 st1 ga ca gw cw i x1 Bo y2 bw R1 C1 G1) (hok : R1.Ok) (hlo : R1.Low 1000) (hbi : R1.births ≤ 100000000) => by
                have hr := h.ref
                have hla : R1.t.lays ≤ 100000000 := by have := hlo.lays; omega
                have hfa : R1.faults ≤ 100000000 := by have := hlo.faults; omega
                have hfr : R1.t.frees ≤ 100000000 := by have := hlo.frees; omega
                have hre : R1.t.reads ≤ 100000000 := by have := hlo.reads; omega
                have hwr : R1.t.writes ≤ 100000000 := by have := hlo.writes; omega
                have hsw : R1.t.swaps ≤ 100000000 := by have := hlo.swaps; omega
                have had : R1.t.adds ≤ 100000000 := by have := hlo.adds; omega
                have hlt : ∀ k, k ∈ G1 → k < W.heap.size := fun k hk => (h.far k hk).2.1
                have hwv0 := HWS.out.1; have hw64 := HWS.out.2.1; have hwl := HWS.out.2.2.1; have hwb := HWS.out.2.2.2
                have hwv2 : WordsAt W (.slice y2.ao y2.wn y2.wc) ws := hwv0 W h.many.turn
                exact h.refc (mk := fun u' => .tuple #[u', .int .u64 (R1.lay ws).2.1, .int .i64 (R1.lay ws).2.2]) (refLay_s R1 _ G1 _ hr hok hbi hla _ ws hwv2 hwl))
              go_wp2_with (first
                | (go_at_call 9; go_must (with_reducible refine (HAC.out _ _ _ _ _ _ _ HR0.out (by omega)).mono ?_); rintro e wa ⟨rfl, M', hra⟩; have HRa := Lib.hid hra; have hqa := hra.op.cells; clear hra; obtain ⟨a0, a1, a2, a3, a4, a5, a6, a7, a8⟩ := hqa)
                | (refine wpList_load_row rfl 54 (.tmp 23) rfl bw rfl 54 x.cs (0, 0) (.struct fs) HRa.out.own HFS.out rfl (by rw [HZ.out]; exact info_refA) ?_)
                | (go_at_call 27; go_must (with_reducible refine (HRC.out _ _ _ _ _ _ _ HRa.out HOK1.out HLO1.out HBI1.out).mono ?_); rintro e wb ⟨CS', G', rfl, hz, hone, hnx⟩; have HNX := Lib.hid hnx; have HZ' := Lib.hid hz; have HONE := Lib.hid hone; have hput := hnx.put zero20; unfold zero20 at hput; have hqb := hput.1.op.cells; have HPUT := Lib.hid hput; clear hz hone hnx hput; obtain ⟨b0, b1, b2, b3, b4, b5, b6, b7, b8⟩ := hqb)
                | (refine wpList_store_row rfl 54 (.tmp 26) (.tmp 229) rfl wb.heap.size CS' rfl rfl 54 zero20 (World.alloc_heap_new wb _) (by rw [HZ'.out]; exact info_refA) (by rw [HZ'.out]; rfl) HONE.out ?_)
                | (refine wpList_load_row rfl 54 (.tmp 26) rfl wb.heap.size rfl 54 CS' (0, 0) (.struct fs) HPUT.out.2.1 HFS.out rfl (by rw [HZ'.out]; exact info_refA) ?_)
                | (refine wpList_store_row rfl 54 (.tmp 23) (.tmp 232) rfl bw CS' rfl rfl 54 x.cs HPUT.out.2.2.1 (by rw [HZ'.out]; exact info_refA) HPUT.out.2.2.2 HONE.out ?_))
              all_goals go_meet
              all_goals exact ⟨rfl, sw_end HA.out HPUT.out.1 rfl⟩
          · as_aux_lemma =>
              have HAC := Lib.hid (fun (W : World) (n1 : Nat) (st1 : List One) (x1 : One) (R1 : Ar) (C1 : Array Value) (G1 : List Nat) (h : Rnd w1 W n1 st1 ga ca gw cw i x1 Bo y2 bw R1 C1 G1) (hn1 : n1 ≤ 1000) => by
                have hs := (h.many.each i x1 h.at_).sin
                have hwv0 := HWS.out.1; have hw64 := HWS.out.2.1; have hwl := HWS.out.2.2.1; have hwb := HWS.out.2.2.2
                have hwv : WordsAt W (.slice y2.ao y2.wn y2.wc) ws := hwv0 W h.many.turn
                have hwf : ws ≠ [] → ∀ k, (Value.slice y2.ao y2.wn y2.wc).ownBlock = some k → k ∉ x1.M.foot x1.b := fun hne k hk hk' => by have e1 := hwb hne k hk; have e2 := hs.new k hk'; omega
                exact h.arena (m := n1 + 1) (by omega) (sin_lay hs (by omega) hwv hwf hw64))
              have HRC := Lib.hid (fun (W : World) (n1 : Nat) (st1 : List One) (x1 : One) (R1 : Ar) (C1 : Array Value) (G1 : List Nat) (h : Rnd w1 W n1 st1 ga ca gw cw i x1 Bo y2 bw R1 C1 G1) (hok : R1.Ok) (hlo : R1.Low 1000) (hbi : R1.births ≤ 100000000) => by
                have hr := h.ref
                have hla : R1.t.lays ≤ 100000000 := by have := hlo.lays; omega
                have hfa : R1.faults ≤ 100000000 := by have := hlo.faults; omega
                have hfr : R1.t.frees ≤ 100000000 := by have := hlo.frees; omega
                have hre : R1.t.reads ≤ 100000000 := by have := hlo.reads; omega
                have hwr : R1.t.writes ≤ 100000000 := by have := hlo.writes; omega
                have hsw : R1.t.swaps ≤ 100000000 := by have := hlo.swaps; omega
                have had : R1.t.adds ≤ 100000000 := by have := hlo.adds; omega
                have hlt : ∀ k, k ∈ G1 → k < W.heap.size := fun k hk => (h.far k hk).2.1
                have hwv0 := HWS.out.1; have hw64 := HWS.out.2.1; have hwl := HWS.out.2.2.1; have hwb := HWS.out.2.2.2
                have hwv2 : WordsAt W (.slice y2.ao y2.wn y2.wc) ws := hwv0 W h.many.turn
                exact h.refc (mk := fun u' => .tuple #[u', .int .u64 (R1.lay ws).2.1, .int .i64 (R1.lay ws).2.2]) (refLay_s R1 _ G1 _ hr hok hbi hla _ ws hwv2 hwl))
              go_wp2_with (first
                | (go_at_call 9; go_must (with_reducible refine (HAC.out _ _ _ _ _ _ _ HR0.out (by omega)).mono ?_); rintro e wa ⟨rfl, M', hra⟩; have HRa := Lib.hid hra; have hqa := hra.op.cells; clear hra; obtain ⟨a0, a1, a2, a3, a4, a5, a6, a7, a8⟩ := hqa)
                | (refine wpList_load_row rfl 54 (.tmp 23) rfl bw rfl 54 x.cs (0, 0) (.struct fs) HRa.out.own HFS.out rfl (by rw [HZ.out]; exact info_refA) ?_)
                | (go_at_call 27; go_must (with_reducible refine (HRC.out _ _ _ _ _ _ _ HRa.out HOK1.out HLO1.out HBI1.out).mono ?_); rintro e wb ⟨CS', G', rfl, hz, hone, hnx⟩; have HNX := Lib.hid hnx; have HZ' := Lib.hid hz; have HONE := Lib.hid hone; have hput := hnx.put zero20; unfold zero20 at hput; have hqb := hput.1.op.cells; have HPUT := Lib.hid hput; clear hz hone hnx hput; obtain ⟨b0, b1, b2, b3, b4, b5, b6, b7, b8⟩ := hqb)
                | (refine wpList_store_row rfl 54 (.tmp 26) (.tmp 229) rfl wb.heap.size CS' rfl rfl 54 zero20 (World.alloc_heap_new wb _) (by rw [HZ'.out]; exact info_refA) (by rw [HZ'.out]; rfl) HONE.out ?_)
                | (refine wpList_load_row rfl 54 (.tmp 26) rfl wb.heap.size rfl 54 CS' (0, 0) (.struct fs) HPUT.out.2.1 HFS.out rfl (by rw [HZ'.out]; exact info_refA) ?_)
                | (refine wpList_store_row rfl 54 (.tmp 23) (.tmp 232) rfl bw CS' rfl rfl 54 x.cs HPUT.out.2.2.1 (by rw [HZ'.out]; exact info_refA) HPUT.out.2.2.2 HONE.out ?_))
              all_goals go_meet
              all_goals exact ⟨rfl, sw_end HA.out HPUT.out.1 rfl⟩
          · as_aux_lemma =>
              have HAC := Lib.hid (fun (W : World) (n1 : Nat) (st1 : List One) (x1 : One) (R1 : Ar) (C1 : Array Value) (G1 : List Nat) (h : Rnd w1 W n1 st1 ga ca gw cw i x1 Bo y2 bw R1 C1 G1) (hn1 : n1 ≤ 1000) => by
                have hs := (h.many.each i x1 h.at_).sin
                exact h.arena (m := n1 + 1) (by omega) (sin_free hs (by omega) y2.h HOK.out.h))
              have HRC := Lib.hid (fun (W : World) (n1 : Nat) (st1 : List One) (x1 : One) (R1 : Ar) (C1 : Array Value) (G1 : List Nat) (h : Rnd w1 W n1 st1 ga ca gw cw i x1 Bo y2 bw R1 C1 G1) (hok : R1.Ok) (hlo : R1.Low 1000) (hbi : R1.births ≤ 100000000) => by
                have hr := h.ref
                have hla : R1.t.lays ≤ 100000000 := by have := hlo.lays; omega
                have hfa : R1.faults ≤ 100000000 := by have := hlo.faults; omega
                have hfr : R1.t.frees ≤ 100000000 := by have := hlo.frees; omega
                have hre : R1.t.reads ≤ 100000000 := by have := hlo.reads; omega
                have hwr : R1.t.writes ≤ 100000000 := by have := hlo.writes; omega
                have hsw : R1.t.swaps ≤ 100000000 := by have := hlo.swaps; omega
                have had : R1.t.adds ≤ 100000000 := by have := hlo.adds; omega
                have hlt : ∀ k, k ∈ G1 → k < W.heap.size := fun k hk => (h.far k hk).2.1
                exact h.refc (mk := fun u' => .tuple #[u', .int .i64 (R1.free y2.h).2]) (refFree_s R1 _ G1 _ hr hok hfa hfr y2.h))
              go_wp2_with (first
                | (refine wpList_load_row rfl 54 (.tmp 23) rfl bw rfl 54 x.cs (0, 0) (.struct fs) HR0.out.own HFS.out rfl (by rw [HZ.out]; exact info_refA) ?_)
                | (go_at_call 28; go_must (with_reducible refine (HRC.out _ _ _ _ _ _ _ HR0.out HOK1.out HLO1.out HBI1.out).mono ?_); rintro e wb ⟨CS', G', rfl, hz, hone, hnx⟩; have HNX := Lib.hid hnx; have HZ' := Lib.hid hz; have HONE := Lib.hid hone; have hput := hnx.put zero20; unfold zero20 at hput; have hqb := hput.1.op.cells; have HPUT := Lib.hid hput; clear hz hone hnx hput; obtain ⟨b0, b1, b2, b3, b4, b5, b6, b7, b8⟩ := hqb)
                | (refine wpList_store_row rfl 54 (.tmp 29) (.tmp 248) rfl wb.heap.size CS' rfl rfl 54 zero20 (World.alloc_heap_new wb _) (by rw [HZ'.out]; exact info_refA) (by rw [HZ'.out]; rfl) HONE.out ?_)
                | (refine wpList_load_row rfl 54 (.tmp 29) rfl wb.heap.size rfl 54 CS' (0, 0) (.struct fs) HPUT.out.2.1 HFS.out rfl (by rw [HZ'.out]; exact info_refA) ?_)
                | (refine wpList_store_row rfl 54 (.tmp 23) (.tmp 250) rfl bw CS' rfl rfl 54 x.cs HPUT.out.2.2.1 (by rw [HZ'.out]; exact info_refA) HPUT.out.2.2.2 HONE.out ?_)
                | (go_at_call 13; go_must (with_reducible refine (HAC.out _ _ _ _ _ _ _ HPUT.out.1 (by omega)).mono ?_); rintro e wa ⟨rfl, M', hra⟩; have HRa := Lib.hid hra; have hqa := hra.op.cells; clear hra; obtain ⟨a0, a1, a2, a3, a4, a5, a6, a7, a8⟩ := hqa))
              all_goals go_meet
              all_goals exact ⟨rfl, sw_end HA.out HRa.out rfl⟩
          · as_aux_lemma =>
              have HAC := Lib.hid (fun (W : World) (n1 : Nat) (st1 : List One) (x1 : One) (R1 : Ar) (C1 : Array Value) (G1 : List Nat) (h : Rnd w1 W n1 st1 ga ca gw cw i x1 Bo y2 bw R1 C1 G1) (hn1 : n1 ≤ 1000) => by
                have hs := (h.many.each i x1 h.at_).sin
                exact h.arena (m := n1 + 1) (by omega) (sin_read hs (by omega) y2.xb y2.xa HOK.out.xb HOK.out.xa))
              have HRC := Lib.hid (fun (W : World) (n1 : Nat) (st1 : List One) (x1 : One) (R1 : Ar) (C1 : Array Value) (G1 : List Nat) (h : Rnd w1 W n1 st1 ga ca gw cw i x1 Bo y2 bw R1 C1 G1) (hok : R1.Ok) (hlo : R1.Low 1000) (hbi : R1.births ≤ 100000000) => by
                have hr := h.ref
                have hla : R1.t.lays ≤ 100000000 := by have := hlo.lays; omega
                have hfa : R1.faults ≤ 100000000 := by have := hlo.faults; omega
                have hfr : R1.t.frees ≤ 100000000 := by have := hlo.frees; omega
                have hre : R1.t.reads ≤ 100000000 := by have := hlo.reads; omega
                have hwr : R1.t.writes ≤ 100000000 := by have := hlo.writes; omega
                have hsw : R1.t.swaps ≤ 100000000 := by have := hlo.swaps; omega
                have had : R1.t.adds ≤ 100000000 := by have := hlo.adds; omega
                have hlt : ∀ k, k ∈ G1 → k < W.heap.size := fun k hk => (h.far k hk).2.1
                exact h.refc (mk := fun u' => .tuple #[u', .int .u64 (R1.read y2.xb y2.xa).2.1, .int .i64 (R1.read y2.xb y2.xa).2.2]) (refRead_any R1 _ G1 _ hr hok hfa hre y2.xb y2.xa))
              go_wp2_with (first
                | (go_at_call 10; go_must (with_reducible refine (HAC.out _ _ _ _ _ _ _ HR0.out (by omega)).mono ?_); rintro e wa ⟨rfl, M', hra⟩; have HRa := Lib.hid hra; have hqa := hra.op.cells; clear hra; obtain ⟨a0, a1, a2, a3, a4, a5, a6, a7, a8⟩ := hqa)
                | (refine wpList_load_row rfl 54 (.tmp 23) rfl bw rfl 54 x.cs (0, 0) (.struct fs) HRa.out.own HFS.out rfl (by rw [HZ.out]; exact info_refA) ?_)
                | (go_at_call 29; go_must (with_reducible refine (HRC.out _ _ _ _ _ _ _ HRa.out HOK1.out HLO1.out HBI1.out).mono ?_); rintro e wb ⟨CS', G', rfl, hz, hone, hnx⟩; have HNX := Lib.hid hnx; have HZ' := Lib.hid hz; have HONE := Lib.hid hone; have hput := hnx.put zero20; unfold zero20 at hput; have hqb := hput.1.op.cells; have HPUT := Lib.hid hput; clear hz hone hnx hput; obtain ⟨b0, b1, b2, b3, b4, b5, b6, b7, b8⟩ := hqb)
                | (refine wpList_store_row rfl 54 (.tmp 33) (.tmp 271) rfl wb.heap.size CS' rfl rfl 54 zero20 (World.alloc_heap_new wb _) (by rw [HZ'.out]; exact info_refA) (by rw [HZ'.out]; rfl) HONE.out ?_)
                | (refine wpList_load_row rfl 54 (.tmp 33) rfl wb.heap.size rfl 54 CS' (0, 0) (.struct fs) HPUT.out.2.1 HFS.out rfl (by rw [HZ'.out]; exact info_refA) ?_)
                | (refine wpList_store_row rfl 54 (.tmp 23) (.tmp 274) rfl bw CS' rfl rfl 54 x.cs HPUT.out.2.2.1 (by rw [HZ'.out]; exact info_refA) HPUT.out.2.2.2 HONE.out ?_))
              all_goals go_meet
              all_goals exact ⟨rfl, sw_end HA.out HPUT.out.1 rfl⟩
          · as_aux_lemma =>
              have HAC := Lib.hid (fun (W : World) (n1 : Nat) (st1 : List One) (x1 : One) (R1 : Ar) (C1 : Array Value) (G1 : List Nat) (h : Rnd w1 W n1 st1 ga ca gw cw i x1 Bo y2 bw R1 C1 G1) (hn1 : n1 ≤ 1000) => by
                have hs := (h.many.each i x1 h.at_).sin
                exact h.arena (m := n1 + 1) (by omega) (sin_write hs (by omega) y2.xb y2.xa y2.n HOK.out.xb HOK.out.xa HOK.out.n))
              have HRC := Lib.hid (fun (W : World) (n1 : Nat) (st1 : List One) (x1 : One) (R1 : Ar) (C1 : Array Value) (G1 : List Nat) (h : Rnd w1 W n1 st1 ga ca gw cw i x1 Bo y2 bw R1 C1 G1) (hok : R1.Ok) (hlo : R1.Low 1000) (hbi : R1.births ≤ 100000000) => by
                have hr := h.ref
                have hla : R1.t.lays ≤ 100000000 := by have := hlo.lays; omega
                have hfa : R1.faults ≤ 100000000 := by have := hlo.faults; omega
                have hfr : R1.t.frees ≤ 100000000 := by have := hlo.frees; omega
                have hre : R1.t.reads ≤ 100000000 := by have := hlo.reads; omega
                have hwr : R1.t.writes ≤ 100000000 := by have := hlo.writes; omega
                have hsw : R1.t.swaps ≤ 100000000 := by have := hlo.swaps; omega
                have had : R1.t.adds ≤ 100000000 := by have := hlo.adds; omega
                have hlt : ∀ k, k ∈ G1 → k < W.heap.size := fun k hk => (h.far k hk).2.1
                exact h.refc (mk := fun u' => .tuple #[u', .int .i64 (R1.write y2.xb y2.xa y2.n).2]) (refWrite_any R1 _ G1 _ hr hok hfa hwr y2.xb y2.xa y2.n hlt))
              go_wp2_with (first
                | (refine wpList_load_row rfl 54 (.tmp 23) rfl bw rfl 54 x.cs (0, 0) (.struct fs) HR0.out.own HFS.out rfl (by rw [HZ.out]; exact info_refA) ?_)
                | (go_at_call 30; go_must (with_reducible refine (HRC.out _ _ _ _ _ _ _ HR0.out HOK1.out HLO1.out HBI1.out).mono ?_); rintro e wb ⟨CS', G', rfl, hz, hone, hnx⟩; have HNX := Lib.hid hnx; have HZ' := Lib.hid hz; have HONE := Lib.hid hone; have hput := hnx.put zero20; unfold zero20 at hput; have hqb := hput.1.op.cells; have HPUT := Lib.hid hput; clear hz hone hnx hput; obtain ⟨b0, b1, b2, b3, b4, b5, b6, b7, b8⟩ := hqb)
                | (refine wpList_store_row rfl 54 (.tmp 36) (.tmp 292) rfl wb.heap.size CS' rfl rfl 54 zero20 (World.alloc_heap_new wb _) (by rw [HZ'.out]; exact info_refA) (by rw [HZ'.out]; rfl) HONE.out ?_)
                | (refine wpList_load_row rfl 54 (.tmp 36) rfl wb.heap.size rfl 54 CS' (0, 0) (.struct fs) HPUT.out.2.1 HFS.out rfl (by rw [HZ'.out]; exact info_refA) ?_)
                | (refine wpList_store_row rfl 54 (.tmp 23) (.tmp 294) rfl bw CS' rfl rfl 54 x.cs HPUT.out.2.2.1 (by rw [HZ'.out]; exact info_refA) HPUT.out.2.2.2 HONE.out ?_)
                | (go_at_call 14; go_must (with_reducible refine (HAC.out _ _ _ _ _ _ _ HPUT.out.1 (by omega)).mono ?_); rintro e wa ⟨rfl, M', hra⟩; have HRa := Lib.hid hra; have hqa := hra.op.cells; clear hra; obtain ⟨a0, a1, a2, a3, a4, a5, a6, a7, a8⟩ := hqa))
              all_goals go_meet
              all_goals exact ⟨rfl, sw_end HA.out HRa.out rfl⟩
          · as_aux_lemma =>
              have HAC := Lib.hid (fun (W : World) (n1 : Nat) (st1 : List One) (x1 : One) (R1 : Ar) (C1 : Array Value) (G1 : List Nat) (h : Rnd w1 W n1 st1 ga ca gw cw i x1 Bo y2 bw R1 C1 G1) (hn1 : n1 ≤ 1000) => by
                have hs := (h.many.each i x1 h.at_).sin
                exact h.arena (m := n1 + 1) (by omega) (sin_swap hs (by omega) y2.xb y2.xa y2.n y2.m HOK.out.xb HOK.out.xa HOK.out.m))
              have HRC := Lib.hid (fun (W : World) (n1 : Nat) (st1 : List One) (x1 : One) (R1 : Ar) (C1 : Array Value) (G1 : List Nat) (h : Rnd w1 W n1 st1 ga ca gw cw i x1 Bo y2 bw R1 C1 G1) (hok : R1.Ok) (hlo : R1.Low 1000) (hbi : R1.births ≤ 100000000) => by
                have hr := h.ref
                have hla : R1.t.lays ≤ 100000000 := by have := hlo.lays; omega
                have hfa : R1.faults ≤ 100000000 := by have := hlo.faults; omega
                have hfr : R1.t.frees ≤ 100000000 := by have := hlo.frees; omega
                have hre : R1.t.reads ≤ 100000000 := by have := hlo.reads; omega
                have hwr : R1.t.writes ≤ 100000000 := by have := hlo.writes; omega
                have hsw : R1.t.swaps ≤ 100000000 := by have := hlo.swaps; omega
                have had : R1.t.adds ≤ 100000000 := by have := hlo.adds; omega
                have hlt : ∀ k, k ∈ G1 → k < W.heap.size := fun k hk => (h.far k hk).2.1
                exact h.refc (mk := fun u' => .tuple #[u', .bool (R1.swap y2.xb y2.xa y2.n y2.m).2.1, .int .i64 (R1.swap y2.xb y2.xa y2.n y2.m).2.2]) (refSwap_any R1 _ G1 _ hr hok hfa hsw y2.xb y2.xa y2.n y2.m hlt))
              go_wp2_with (first
                | (go_at_call 11; go_must (with_reducible refine (HAC.out _ _ _ _ _ _ _ HR0.out (by omega)).mono ?_); rintro e wa ⟨rfl, M', hra⟩; have HRa := Lib.hid hra; have hqa := hra.op.cells; clear hra; obtain ⟨a0, a1, a2, a3, a4, a5, a6, a7, a8⟩ := hqa)
                | (refine wpList_load_row rfl 54 (.tmp 23) rfl bw rfl 54 x.cs (0, 0) (.struct fs) HRa.out.own HFS.out rfl (by rw [HZ.out]; exact info_refA) ?_)
                | (go_at_call 31; go_must (with_reducible refine (HRC.out _ _ _ _ _ _ _ HRa.out HOK1.out HLO1.out HBI1.out).mono ?_); rintro e wb ⟨CS', G', rfl, hz, hone, hnx⟩; have HNX := Lib.hid hnx; have HZ' := Lib.hid hz; have HONE := Lib.hid hone; have hput := hnx.put zero20; unfold zero20 at hput; have hqb := hput.1.op.cells; have HPUT := Lib.hid hput; clear hz hone hnx hput; obtain ⟨b0, b1, b2, b3, b4, b5, b6, b7, b8⟩ := hqb)
                | (refine wpList_store_row rfl 54 (.tmp 40) (.tmp 325) rfl wb.heap.size CS' rfl rfl 54 zero20 (World.alloc_heap_new wb _) (by rw [HZ'.out]; exact info_refA) (by rw [HZ'.out]; rfl) HONE.out ?_)
                | (refine wpList_load_row rfl 54 (.tmp 40) rfl wb.heap.size rfl 54 CS' (0, 0) (.struct fs) HPUT.out.2.1 HFS.out rfl (by rw [HZ'.out]; exact info_refA) ?_)
                | (refine wpList_store_row rfl 54 (.tmp 23) (.tmp 328) rfl bw CS' rfl rfl 54 x.cs HPUT.out.2.2.1 (by rw [HZ'.out]; exact info_refA) HPUT.out.2.2.2 HONE.out ?_))
              all_goals go_meet
              all_goals exact ⟨rfl, sw_end HA.out HPUT.out.1 rfl⟩
          · as_aux_lemma =>
              have HAC := Lib.hid (fun (W : World) (n1 : Nat) (st1 : List One) (x1 : One) (R1 : Ar) (C1 : Array Value) (G1 : List Nat) (h : Rnd w1 W n1 st1 ga ca gw cw i x1 Bo y2 bw R1 C1 G1) (hn1 : n1 ≤ 1000) => by
                have hs := (h.many.each i x1 h.at_).sin
                exact h.arena (m := n1 + 1) (by omega) (sin_add hs (by omega) y2.xb y2.xa y2.n HOK.out.xb HOK.out.xa HOK.out.n))
              have HRC := Lib.hid (fun (W : World) (n1 : Nat) (st1 : List One) (x1 : One) (R1 : Ar) (C1 : Array Value) (G1 : List Nat) (h : Rnd w1 W n1 st1 ga ca gw cw i x1 Bo y2 bw R1 C1 G1) (hok : R1.Ok) (hlo : R1.Low 1000) (hbi : R1.births ≤ 100000000) => by
                have hr := h.ref
                have hla : R1.t.lays ≤ 100000000 := by have := hlo.lays; omega
                have hfa : R1.faults ≤ 100000000 := by have := hlo.faults; omega
                have hfr : R1.t.frees ≤ 100000000 := by have := hlo.frees; omega
                have hre : R1.t.reads ≤ 100000000 := by have := hlo.reads; omega
                have hwr : R1.t.writes ≤ 100000000 := by have := hlo.writes; omega
                have hsw : R1.t.swaps ≤ 100000000 := by have := hlo.swaps; omega
                have had : R1.t.adds ≤ 100000000 := by have := hlo.adds; omega
                have hlt : ∀ k, k ∈ G1 → k < W.heap.size := fun k hk => (h.far k hk).2.1
                exact h.refc (mk := fun u' => .tuple #[u', .int .u64 (R1.add y2.xb y2.xa y2.n).2.1, .int .i64 (R1.add y2.xb y2.xa y2.n).2.2]) (refAdd_any R1 _ G1 _ hr hok hfa had y2.xb y2.xa y2.n hlt))
              go_wp2_with (first
                | (go_at_call 12; go_must (with_reducible refine (HAC.out _ _ _ _ _ _ _ HR0.out (by omega)).mono ?_); rintro e wa ⟨rfl, M', hra⟩; have HRa := Lib.hid hra; have hqa := hra.op.cells; clear hra; obtain ⟨a0, a1, a2, a3, a4, a5, a6, a7, a8⟩ := hqa)
                | (refine wpList_load_row rfl 54 (.tmp 23) rfl bw rfl 54 x.cs (0, 0) (.struct fs) HRa.out.own HFS.out rfl (by rw [HZ.out]; exact info_refA) ?_)
                | (go_at_call 32; go_must (with_reducible refine (HRC.out _ _ _ _ _ _ _ HRa.out HOK1.out HLO1.out HBI1.out).mono ?_); rintro e wb ⟨CS', G', rfl, hz, hone, hnx⟩; have HNX := Lib.hid hnx; have HZ' := Lib.hid hz; have HONE := Lib.hid hone; have hput := hnx.put zero20; unfold zero20 at hput; have hqb := hput.1.op.cells; have HPUT := Lib.hid hput; clear hz hone hnx hput; obtain ⟨b0, b1, b2, b3, b4, b5, b6, b7, b8⟩ := hqb)
                | (refine wpList_store_row rfl 54 (.tmp 45) (.tmp 355) rfl wb.heap.size CS' rfl rfl 54 zero20 (World.alloc_heap_new wb _) (by rw [HZ'.out]; exact info_refA) (by rw [HZ'.out]; rfl) HONE.out ?_)
                | (refine wpList_load_row rfl 54 (.tmp 45) rfl wb.heap.size rfl 54 CS' (0, 0) (.struct fs) HPUT.out.2.1 HFS.out rfl (by rw [HZ'.out]; exact info_refA) ?_)
                | (refine wpList_store_row rfl 54 (.tmp 23) (.tmp 358) rfl bw CS' rfl rfl 54 x.cs HPUT.out.2.2.1 (by rw [HZ'.out]; exact info_refA) HPUT.out.2.2.2 HONE.out ?_))
              all_goals go_meet
              all_goals exact ⟨rfl, sw_end HA.out HPUT.out.1 rfl⟩
          · as_aux_lemma =>
              have hmore := Lib.hid (HR0.out.more (m := j + 1) (by omega))
              by_cases hfew2 : (st.length : Int) < 4
              · have hf4 : st.length < 4 := by omega
                have HCL := Lib.hid (fun (W : World) (h : Frm.Turn [] wc W) => aclone_any (HR0.out.step h |>.many.each i x HR0.out.at_).sin.at_)
                have HSR := Lib.hid (fun (W : World) (h : W.heap[bw]? = some (.cells x.cs 54 (0, 0))) => (show W.rangeAt bw 0 x.cs.toList from fun j u hu => by rw [Nat.zero_add, Frm.cell_row W bw j x.cs _ _ h]; simpa using hu))
                obtain ⟨ip, hip, hzp, hsp, hbp⟩ := info_parts info_ptr
                obtain ⟨ir, hir, hzr, hsr, hbr⟩ := info_parts info_ref
                go_upto_region 21 with fail
                refine wp_region_held_drew (S := fun w' => w'.rangeAt bw 0 x.cs.toList) (by kernel_rfl) ?_ (fun hHeld => ?_)
                · exact HSR.out _ (show _ = _ from HR0.out.own)
                refine wpAnyH_take (i := 0) (v := ?_) rfl (by kernel_rfl) (by kernel_rfl) (by kernel_rfl) (fun _ _ _ h => h) (Or.inl ⟨by rfl, ?_⟩) (by assumption) ?_
                rotate_left
                · (intro w hSw; (try dsimp only at hSw); go_simp; try with_reducible rfl)
                simp only [Act.put, List.getElem_toArray, List.getElem_cons_succ, List.getElem_cons_zero, List.setIfInBounds_toArray, List.set_cons_zero, List.set_cons_succ]
                refine wpAnyH_take (i := 1) (v := ?_) rfl (by kernel_rfl) (by kernel_rfl) (by kernel_rfl) (fun _ _ _ h => h) (Or.inl ⟨by rfl, ?_⟩) (by assumption) ?_
                rotate_left
                · (intro w hSw; (try dsimp only at hSw); go_simp; try with_reducible rfl)
                simp only [Act.put, List.getElem_toArray, List.getElem_cons_succ, List.getElem_cons_zero, List.setIfInBounds_toArray, List.set_cons_zero, List.set_cons_succ]
                refine wpAnyH_take (i := 5) (v := ?_) rfl (by kernel_rfl) (by kernel_rfl) (by kernel_rfl) (fun _ _ _ h => h) (Or.inl ⟨by rfl, ?_⟩) (by assumption) ?_
                rotate_left
                · (intro w hSw; (try dsimp only at hSw); go_simp; try with_reducible rfl)
                simp only [Act.put, List.getElem_toArray, List.getElem_cons_succ, List.getElem_cons_zero, List.setIfInBounds_toArray, List.set_cons_zero, List.set_cons_succ]
                refine wpAnyH_take (i := 6) (v := _) rfl (by kernel_rfl) (by kernel_rfl) (by kernel_rfl) (fun _ _ _ h => h)
                    (yieldsIf_load_mid (by rfl) _ _ rfl bw 0 rfl x.cs.toList _ (fun w hw => hw) HFS.out rfl HI20.out) (by assumption) ?_
                simp only [Act.put, List.setIfInBounds_toArray, List.set_cons_zero, List.set_cons_succ, Array.toArray_toList]
                generalize hU0 : wc.drew = U0
                have TU0 : Hid (Frm.Turn [] wc U0) := Lib.hid (by rw [← hU0]; exact (Frm.Turn.refl [] wc).drew)
                clear hU0
                have hbq : bw ≠ ga ∧ bw ≠ gw := ⟨HR0.out.dif.2.2.1, HR0.out.dif.2.2.2.1⟩
                have hdif := HR0.out.dif
                refine wpAnyH_ready (rs := [2, 7]) (by kernel_rfl) (by simp) ?_
                refine AllReadyH.cons rfl (fun K hK => ?_) (AllReadyH.cons rfl (fun K hK => ?_) AllReadyH.nil)
                · have HK1 := Lib.hid hK
                  clear hK
                  simp only [List.getElem_toArray, List.getElem_cons_succ, List.getElem_cons_zero]
                  go_simp
                  (go_at_call 24; go_must (with_reducible refine (HCL.out _ TU0.out).mono ?_))
                  rintro e V1 hN
                  obtain ⟨nb, M', rfl, hcl, hT⟩ := cln_start (HR0.out.step TU0.out) hN
                  have hcl2 : Cln w1 wc j st ga ca gw cw i x Bo y2 bw x.A x.cs x.G nb M' V1.heap.size V1 := cln_back TU0.out HR0.out hcl
                  have CL1 := Lib.hid hcl2
                  have TV1 : Hid (Frm.Turn [] wc V1) := Lib.hid (TU0.out.trans hT (by simp))
                  clear hN hcl hcl2 hT
                  refine HK1.out _ _ (HSR.out _ (show _ = _ from TV1.out.keep HR0.out.own (by simp <;> first | omega | exact hbq))) (fun hHeld => ?_)
                  refine wpAnyH_ready (rs := [3, 7]) (by kernel_rfl) (by simp) ?_
                  refine AllReadyH.cons rfl (fun K hK => ?_) (AllReadyH.cons rfl (fun K hK => ?_) AllReadyH.nil)
                  · have HK2 := Lib.hid hK
                    clear hK
                    simp only [List.getElem_toArray, List.getElem_cons_succ, List.getElem_cons_zero]
                    go_simp
                    have hb2 := World.alloc_heap_new V1 (.cells #[.pointer (some ⟨nb, 0, none⟩)] 25)
                    have ht2 : Frm.Turn [] V1 (V1.alloc (.cells #[.pointer (some ⟨nb, 0, none⟩)] 25)) := (Frm.Turn.refl [] V1).alloc _
                    generalize V1.alloc _ = V2 at hb2 ht2 ⊢
                    have TV2 := Lib.hid (TV1.out.trans ht2 (by simp))
                    obtain ⟨q2, HQ2⟩ : ∃ q, Hid (q = V1.heap.size) := ⟨_, Lib.hid rfl⟩
                    rw [← HQ2.out] at hb2 ⊢
                    have HB2 := Lib.hid hb2
                    have CL2 := Lib.hid (CL1.out.step ht2)
                    clear hb2 ht2
                    refine HK2.out _ _ (HSR.out _ (show _ = _ from TV2.out.keep HR0.out.own (by simp <;> first | omega | exact hbq))) (fun hHeld => ?_)
                    refine wpAnyH_ready (rs := [4, 7]) (by kernel_rfl) (by simp) ?_
                    refine AllReadyH.cons rfl (fun K hK => ?_) (AllReadyH.cons rfl (fun K hK => ?_) AllReadyH.nil)
                    · have HK3 := Lib.hid hK
                      clear hK
                      simp only [List.getElem_toArray, List.getElem_cons_succ, List.getElem_cons_zero]
                      refine wp_append_row (.tmp 205) (.tmp 208) 51 rfl 25 ip (.pointer none) 1 8 under_all hip hzp hsp hbp rfl (by decide) ga st.length ca (st.map One.ptr) rfl (Frm.owns_turn HR0.out.many.all TV2.out (by simp)) ⟨q2, 0, none⟩ 1 1 [.pointer (some ⟨nb, 0, none⟩)] rfl rfl (news_at HB2.out) (by simp [Value.oneCell']) (by unfold maxLen; omega) (by omega) ?_
                      intro va V3 hown hg hloc
                      obtain ⟨ga9, ca9, rfl⟩ := ownsRow_succ hown
                      have hT : Frm.Turn [ga] V2 V3 := by simpa using Frm.Turn.of_grown hg
                      have TV3 := Lib.hid ((TV2.out.mono (G := [ga]) (by simp)).trans hT (fun k hk => .inl hk))
                      have Hha3 := Lib.hid hown
                      have CL3 := Lib.hid (CL2.out.grow (.inl rfl) hT)
                      have Hlva3 : Hid (∀ k, (Value.slice (some ⟨ga9, 0, none⟩) (st.length + 1) ca9).ownBlock = some k → k = ga ∨ V1.heap.size ≤ k) := Lib.hid (fun k hk => loc_up hloc CL2.out.up.2 k hk)
                      clear hown hg hloc hT
                      refine HK3.out _ _ (HSR.out _ (show _ = _ from TV3.out.keep HR0.out.own (by simp <;> first | omega | exact hbq))) (fun hHeld => ?_)
                      refine wpAnyH_ready (rs := [7]) (by kernel_rfl) (by simp) ?_
                      refine AllReadyH.cons rfl (fun K hK => ?_) AllReadyH.nil
                      have HK4 := Lib.hid hK
                      clear hK
                      simp only [List.getElem_toArray, List.getElem_cons_succ, List.getElem_cons_zero]
                      refine wp_buildSlice 55 54 1 #[(0, .tmp 211)] rfl x.cs ir (.agg zero20) under_want hir hzr (by rw [hsr]; decide) (by rw [hsr]; decide) (by rw [hsr]; refine Eq.trans (congrArg (Instr.fill _ _) (show _ = [(0, Value.agg x.cs)] from ?_)) (fill_row x.cs _ HZ.out ?_); (first | (rw [Array.toList_map]; kernel_rfl) | kernel_rfl | rfl); (rw [Array.size_map, Array.size_range])) ?_
                      have hb4 := World.alloc_heap_new V3 (.cells x.cs 54)
                      have ht4 : Frm.Turn [] V3 (V3.alloc (.cells x.cs 54)) := (Frm.Turn.refl [] V3).alloc _
                      generalize V3.alloc _ = V4 at hb4 ht4 ⊢
                      have TV4 := Lib.hid (TV3.out.trans ht4 (by simp))
                      obtain ⟨q4, HQ4⟩ : ∃ q, Hid (q = V3.heap.size) := ⟨_, Lib.hid rfl⟩
                      rw [← HQ4.out] at hb4 ⊢
                      have HB4 := Lib.hid hb4
                      have CL4 := Lib.hid (CL3.out.step ht4)
                      have Hha4 := Lib.hid (Frm.owns_turn Hha3.out ht4 (by simp))
                      clear hb4 ht4
                      refine HK4.out _ _ (HSR.out _ (show _ = _ from TV4.out.keep HR0.out.own (by simp <;> first | omega | exact hbq))) (fun hHeld => ?_)
                      refine wpAnyH_ready (rs := [8]) (by kernel_rfl) (by simp) ?_
                      refine AllReadyH.cons rfl (fun K hK => ?_) AllReadyH.nil
                      have HK5 := Lib.hid hK
                      clear hK
                      simp only [List.getElem_toArray, List.getElem_cons_succ, List.getElem_cons_zero]
                      refine wp_append_row (.tmp 210) (.tmp 212) 55 rfl 54 ir (.agg zero20) 20 176 under_want hir hzr hsr hbr rfl (by decide) gw st.length cw (rowOf st) rfl (Frm.owns_turn HR0.out.many.want TV4.out (by simp [Value.ownBlock]; exact HR0.out.many.ne.symm)) ⟨q4, 0, none⟩ 1 1 x.cs.toList rfl (by rw [Array.length_toList, HZ.out]) (news_at (by simpa using HB4.out)) (by have := (ref_size HR0.out.ref).2; intro u hu; exact Array.all_eq_true_iff_forall_mem.1 this u (by simpa using hu)) (by unfold maxLen; omega) (by omega) ?_
                      intro vw V5 hown hg hloc
                      obtain ⟨gw9, cw9, rfl⟩ := ownsRow_succ hown
                      have hT : Frm.Turn [gw] V4 V5 := by simpa using Frm.Turn.of_grown hg
                      have TV5 := Lib.hid ((TV4.out.mono (G := [ga, gw]) (by simp)).trans (hT.mono (by simp)) (fun k hk => .inl hk))
                      have Hhw5 := Lib.hid hown
                      have CL5 := Lib.hid (CL4.out.grow (.inr rfl) hT)
                      have Hlvw5 : Hid (∀ k, (Value.slice (some ⟨gw9, 0, none⟩) (st.length + 1) cw9).ownBlock = some k → k = gw ∨ V1.heap.size ≤ k) := Lib.hid (fun k hk => loc_up hloc CL4.out.up.2 k hk)
                      have Hha5 := Lib.hid (Frm.owns_turn Hha4.out hT (fun k hk hk' => by simp at hk'; subst hk'; rcases Hlva3.out _ hk with e | e; exact HR0.out.many.ne e.symm; have h2 := HR0.out.many.lt; have h3 := CL4.out.up.1; omega))
                      clear hown hg hloc hT
                      refine HK5.out _ _ (HSR.out _ (show _ = _ from TV5.out.keep HR0.out.own (by simp <;> first | omega | exact hbq))) (fun hHeld => ?_)
                      refine wpAnyH_take (i := 9) (v := ?_) rfl (by kernel_rfl) (by kernel_rfl) (by kernel_rfl) (fun _ _ _ h => h) (Or.inl ⟨by rfl, ?_⟩) (by assumption) ?_
                      rotate_left
                      · (intro w hSw; (try dsimp only at hSw); go_simp; try with_reducible rfl)
                      simp only [Act.put, List.getElem_toArray, List.getElem_cons_succ, List.getElem_cons_zero, List.setIfInBounds_toArray, List.set_cons_zero, List.set_cons_succ]
                      refine wpAnyH_take (i := 10) (v := ?_) rfl (by kernel_rfl) (by kernel_rfl) (by kernel_rfl) (fun _ _ _ h => h) (Or.inl ⟨by rfl, ?_⟩) (by assumption) ?_
                      rotate_left
                      · (intro w hSw; (try dsimp only at hSw); go_simp; try with_reducible rfl)
                      simp only [Act.put, List.getElem_toArray, List.getElem_cons_succ, List.getElem_cons_zero, List.setIfInBounds_toArray, List.set_cons_zero, List.set_cons_succ]
                      refine wpAnyH_done (by kernel_rfl) ?_ _
                      try simp only [Act.put]
                      go_wp2
                      go_meet
                      exact ⟨rfl, CL5.out.done rfl HA.out hf4 (by omega) Hha5.out Hhw5.out Hlva3.out Hlvw5.out⟩
                    · have HK6 := Lib.hid hK
                      clear hK
                      simp only [List.getElem_toArray, List.getElem_cons_succ, List.getElem_cons_zero]
                      refine wp_buildSlice 55 54 1 #[(0, .tmp 211)] rfl x.cs ir (.agg zero20) under_want hir hzr (by rw [hsr]; decide) (by rw [hsr]; decide) (by rw [hsr]; refine Eq.trans (congrArg (Instr.fill _ _) (show _ = [(0, Value.agg x.cs)] from ?_)) (fill_row x.cs _ HZ.out ?_); (first | (rw [Array.toList_map]; kernel_rfl) | kernel_rfl | rfl); (rw [Array.size_map, Array.size_range])) ?_
                      have hb6 := World.alloc_heap_new V2 (.cells x.cs 54)
                      have ht6 : Frm.Turn [] V2 (V2.alloc (.cells x.cs 54)) := (Frm.Turn.refl [] V2).alloc _
                      generalize V2.alloc _ = V6 at hb6 ht6 ⊢
                      have TV6 := Lib.hid (TV2.out.trans ht6 (by simp))
                      obtain ⟨q6, HQ6⟩ : ∃ q, Hid (q = V2.heap.size) := ⟨_, Lib.hid rfl⟩
                      rw [← HQ6.out] at hb6 ⊢
                      have HB6 := Lib.hid hb6
                      have CL6 := Lib.hid (CL2.out.step ht6)
                      have HbA6 := Lib.hid (ht6.keep HB2.out (by simp))
                      clear hb6 ht6
                      refine HK6.out _ _ (HSR.out _ (show _ = _ from TV6.out.keep HR0.out.own (by simp <;> first | omega | exact hbq))) (fun hHeld => ?_)
                      refine wpAnyH_ready (rs := [4]) (by kernel_rfl) (by simp) ?_
                      refine AllReadyH.cons rfl (fun K hK => ?_) AllReadyH.nil
                      have HK7 := Lib.hid hK
                      clear hK
                      simp only [List.getElem_toArray, List.getElem_cons_succ, List.getElem_cons_zero]
                      refine wp_append_row (.tmp 205) (.tmp 208) 51 rfl 25 ip (.pointer none) 1 8 under_all hip hzp hsp hbp rfl (by decide) ga st.length ca (st.map One.ptr) rfl (Frm.owns_turn HR0.out.many.all TV6.out (by simp)) ⟨q2, 0, none⟩ 1 1 [.pointer (some ⟨nb, 0, none⟩)] rfl rfl (news_at HbA6.out) (by simp [Value.oneCell']) (by unfold maxLen; omega) (by omega) ?_
                      intro va V7 hown hg hloc
                      obtain ⟨ga9, ca9, rfl⟩ := ownsRow_succ hown
                      have hT : Frm.Turn [ga] V6 V7 := by simpa using Frm.Turn.of_grown hg
                      have TV7 := Lib.hid ((TV6.out.mono (G := [ga]) (by simp)).trans hT (fun k hk => .inl hk))
                      have Hha7 := Lib.hid hown
                      have CL7 := Lib.hid (CL6.out.grow (.inl rfl) hT)
                      have Hlva7 : Hid (∀ k, (Value.slice (some ⟨ga9, 0, none⟩) (st.length + 1) ca9).ownBlock = some k → k = ga ∨ V1.heap.size ≤ k) := Lib.hid (fun k hk => loc_up hloc CL6.out.up.2 k hk)
                      have HBW7 := Lib.hid (hT.keep HB6.out (by simp; exact fun e => by have h1 := HQ6.out; have h2 := HR0.out.many.lt; have h3 := TV2.out.size; omega))
                      clear hown hg hloc hT
                      refine HK7.out _ _ (HSR.out _ (show _ = _ from TV7.out.keep HR0.out.own (by simp <;> first | omega | exact hbq))) (fun hHeld => ?_)
                      refine wpAnyH_ready (rs := [8]) (by kernel_rfl) (by simp) ?_
                      refine AllReadyH.cons rfl (fun K hK => ?_) AllReadyH.nil
                      have HK8 := Lib.hid hK
                      clear hK
                      simp only [List.getElem_toArray, List.getElem_cons_succ, List.getElem_cons_zero]
                      refine wp_append_row (.tmp 210) (.tmp 212) 55 rfl 54 ir (.agg zero20) 20 176 under_want hir hzr hsr hbr rfl (by decide) gw st.length cw (rowOf st) rfl (Frm.owns_turn HR0.out.many.want TV7.out (by simp [Value.ownBlock]; exact HR0.out.many.ne.symm)) ⟨q6, 0, none⟩ 1 1 x.cs.toList rfl (by rw [Array.length_toList, HZ.out]) (news_at (by simpa using HBW7.out)) (by have := (ref_size HR0.out.ref).2; intro u hu; exact Array.all_eq_true_iff_forall_mem.1 this u (by simpa using hu)) (by unfold maxLen; omega) (by omega) ?_
                      intro vw V8 hown hg hloc
                      obtain ⟨gw9, cw9, rfl⟩ := ownsRow_succ hown
                      have hT : Frm.Turn [gw] V7 V8 := by simpa using Frm.Turn.of_grown hg
                      have TV8 := Lib.hid ((TV7.out.mono (G := [ga, gw]) (by simp)).trans (hT.mono (by simp)) (fun k hk => .inl hk))
                      have Hhw8 := Lib.hid hown
                      have CL8 := Lib.hid (CL7.out.grow (.inr rfl) hT)
                      have Hlvw8 : Hid (∀ k, (Value.slice (some ⟨gw9, 0, none⟩) (st.length + 1) cw9).ownBlock = some k → k = gw ∨ V1.heap.size ≤ k) := Lib.hid (fun k hk => loc_up hloc CL7.out.up.2 k hk)
                      have Hha8 := Lib.hid (Frm.owns_turn Hha7.out hT (fun k hk hk' => by simp at hk'; subst hk'; rcases Hlva7.out _ hk with e | e; exact HR0.out.many.ne e.symm; have h2 := HR0.out.many.lt; have h3 := CL7.out.up.1; omega))
                      clear hown hg hloc hT
                      refine HK8.out _ _ (HSR.out _ (show _ = _ from TV8.out.keep HR0.out.own (by simp <;> first | omega | exact hbq))) (fun hHeld => ?_)
                      refine wpAnyH_take (i := 9) (v := ?_) rfl (by kernel_rfl) (by kernel_rfl) (by kernel_rfl) (fun _ _ _ h => h) (Or.inl ⟨by rfl, ?_⟩) (by assumption) ?_
                      rotate_left
                      · (intro w hSw; (try dsimp only at hSw); go_simp; try with_reducible rfl)
                      simp only [Act.put, List.getElem_toArray, List.getElem_cons_succ, List.getElem_cons_zero, List.setIfInBounds_toArray, List.set_cons_zero, List.set_cons_succ]
                      refine wpAnyH_take (i := 10) (v := ?_) rfl (by kernel_rfl) (by kernel_rfl) (by kernel_rfl) (fun _ _ _ h => h) (Or.inl ⟨by rfl, ?_⟩) (by assumption) ?_
                      rotate_left
                      · (intro w hSw; (try dsimp only at hSw); go_simp; try with_reducible rfl)
                      simp only [Act.put, List.getElem_toArray, List.getElem_cons_succ, List.getElem_cons_zero, List.setIfInBounds_toArray, List.set_cons_zero, List.set_cons_succ]
                      refine wpAnyH_done (by kernel_rfl) ?_ _
                      try simp only [Act.put]
                      go_wp2
                      go_meet
                      exact ⟨rfl, CL8.out.done rfl HA.out hf4 (by omega) Hha8.out Hhw8.out Hlva7.out Hlvw8.out⟩
                  · have HK9 := Lib.hid hK
                    clear hK
                    simp only [List.getElem_toArray, List.getElem_cons_succ, List.getElem_cons_zero]
                    refine wp_buildSlice 55 54 1 #[(0, .tmp 211)] rfl x.cs ir (.agg zero20) under_want hir hzr (by rw [hsr]; decide) (by rw [hsr]; decide) (by rw [hsr]; refine Eq.trans (congrArg (Instr.fill _ _) (show _ = [(0, Value.agg x.cs)] from ?_)) (fill_row x.cs _ HZ.out ?_); (first | (rw [Array.toList_map]; kernel_rfl) | kernel_rfl | rfl); (rw [Array.size_map, Array.size_range])) ?_
                    have hb9 := World.alloc_heap_new V1 (.cells x.cs 54)
                    have ht9 : Frm.Turn [] V1 (V1.alloc (.cells x.cs 54)) := (Frm.Turn.refl [] V1).alloc _
                    generalize V1.alloc _ = V9 at hb9 ht9 ⊢
                    have TV9 := Lib.hid (TV1.out.trans ht9 (by simp))
                    obtain ⟨q9, HQ9⟩ : ∃ q, Hid (q = V1.heap.size) := ⟨_, Lib.hid rfl⟩
                    rw [← HQ9.out] at hb9 ⊢
                    have HB9 := Lib.hid hb9
                    have CL9 := Lib.hid (CL1.out.step ht9)
                    clear hb9 ht9
                    refine HK9.out _ _ (HSR.out _ (show _ = _ from TV9.out.keep HR0.out.own (by simp <;> first | omega | exact hbq))) (fun hHeld => ?_)
                    refine wpAnyH_ready (rs := [3]) (by kernel_rfl) (by simp) ?_
                    refine AllReadyH.cons rfl (fun K hK => ?_) AllReadyH.nil
                    have HK10 := Lib.hid hK
                    clear hK
                    simp only [List.getElem_toArray, List.getElem_cons_succ, List.getElem_cons_zero]
                    go_simp
                    have hb10 := World.alloc_heap_new V9 (.cells #[.pointer (some ⟨nb, 0, none⟩)] 25)
                    have ht10 : Frm.Turn [] V9 (V9.alloc (.cells #[.pointer (some ⟨nb, 0, none⟩)] 25)) := (Frm.Turn.refl [] V9).alloc _
                    generalize V9.alloc _ = V10 at hb10 ht10 ⊢
                    have TV10 := Lib.hid (TV9.out.trans ht10 (by simp))
                    obtain ⟨q10, HQ10⟩ : ∃ q, Hid (q = V9.heap.size) := ⟨_, Lib.hid rfl⟩
                    rw [← HQ10.out] at hb10 ⊢
                    have HB10 := Lib.hid hb10
                    have CL10 := Lib.hid (CL9.out.step ht10)
                    have HbW10 := Lib.hid (ht10.keep HB9.out (by simp))
                    clear hb10 ht10
                    refine HK10.out _ _ (HSR.out _ (show _ = _ from TV10.out.keep HR0.out.own (by simp <;> first | omega | exact hbq))) (fun hHeld => ?_)
                    refine wpAnyH_ready (rs := [4]) (by kernel_rfl) (by simp) ?_
                    refine AllReadyH.cons rfl (fun K hK => ?_) AllReadyH.nil
                    have HK11 := Lib.hid hK
                    clear hK
                    simp only [List.getElem_toArray, List.getElem_cons_succ, List.getElem_cons_zero]
                    refine wp_append_row (.tmp 205) (.tmp 208) 51 rfl 25 ip (.pointer none) 1 8 under_all hip hzp hsp hbp rfl (by decide) ga st.length ca (st.map One.ptr) rfl (Frm.owns_turn HR0.out.many.all TV10.out (by simp)) ⟨q10, 0, none⟩ 1 1 [.pointer (some ⟨nb, 0, none⟩)] rfl rfl (news_at HB10.out) (by simp [Value.oneCell']) (by unfold maxLen; omega) (by omega) ?_
                    intro va V11 hown hg hloc
                    obtain ⟨ga9, ca9, rfl⟩ := ownsRow_succ hown
                    have hT : Frm.Turn [ga] V10 V11 := by simpa using Frm.Turn.of_grown hg
                    have TV11 := Lib.hid ((TV10.out.mono (G := [ga]) (by simp)).trans hT (fun k hk => .inl hk))
                    have Hha11 := Lib.hid hown
                    have CL11 := Lib.hid (CL10.out.grow (.inl rfl) hT)
                    have Hlva11 : Hid (∀ k, (Value.slice (some ⟨ga9, 0, none⟩) (st.length + 1) ca9).ownBlock = some k → k = ga ∨ V1.heap.size ≤ k) := Lib.hid (fun k hk => loc_up hloc CL10.out.up.2 k hk)
                    have HBW11 := Lib.hid (hT.keep HbW10.out (by simp; exact fun e => by have h1 := HQ9.out; have h2 := HR0.out.many.lt; have h3 := TV1.out.size; omega))
                    clear hown hg hloc hT
                    refine HK11.out _ _ (HSR.out _ (show _ = _ from TV11.out.keep HR0.out.own (by simp <;> first | omega | exact hbq))) (fun hHeld => ?_)
                    refine wpAnyH_ready (rs := [8]) (by kernel_rfl) (by simp) ?_
                    refine AllReadyH.cons rfl (fun K hK => ?_) AllReadyH.nil
                    have HK12 := Lib.hid hK
                    clear hK
                    simp only [List.getElem_toArray, List.getElem_cons_succ, List.getElem_cons_zero]
                    refine wp_append_row (.tmp 210) (.tmp 212) 55 rfl 54 ir (.agg zero20) 20 176 under_want hir hzr hsr hbr rfl (by decide) gw st.length cw (rowOf st) rfl (Frm.owns_turn HR0.out.many.want TV11.out (by simp [Value.ownBlock]; exact HR0.out.many.ne.symm)) ⟨q9, 0, none⟩ 1 1 x.cs.toList rfl (by rw [Array.length_toList, HZ.out]) (news_at (by simpa using HBW11.out)) (by have := (ref_size HR0.out.ref).2; intro u hu; exact Array.all_eq_true_iff_forall_mem.1 this u (by simpa using hu)) (by unfold maxLen; omega) (by omega) ?_
                    intro vw V12 hown hg hloc
                    obtain ⟨gw9, cw9, rfl⟩ := ownsRow_succ hown
                    have hT : Frm.Turn [gw] V11 V12 := by simpa using Frm.Turn.of_grown hg
                    have TV12 := Lib.hid ((TV11.out.mono (G := [ga, gw]) (by simp)).trans (hT.mono (by simp)) (fun k hk => .inl hk))
                    have Hhw12 := Lib.hid hown
                    have CL12 := Lib.hid (CL11.out.grow (.inr rfl) hT)
                    have Hlvw12 : Hid (∀ k, (Value.slice (some ⟨gw9, 0, none⟩) (st.length + 1) cw9).ownBlock = some k → k = gw ∨ V1.heap.size ≤ k) := Lib.hid (fun k hk => loc_up hloc CL11.out.up.2 k hk)
                    have Hha12 := Lib.hid (Frm.owns_turn Hha11.out hT (fun k hk hk' => by simp at hk'; subst hk'; rcases Hlva11.out _ hk with e | e; exact HR0.out.many.ne e.symm; have h2 := HR0.out.many.lt; have h3 := CL11.out.up.1; omega))
                    clear hown hg hloc hT
                    refine HK12.out _ _ (HSR.out _ (show _ = _ from TV12.out.keep HR0.out.own (by simp <;> first | omega | exact hbq))) (fun hHeld => ?_)
                    refine wpAnyH_take (i := 9) (v := ?_) rfl (by kernel_rfl) (by kernel_rfl) (by kernel_rfl) (fun _ _ _ h => h) (Or.inl ⟨by rfl, ?_⟩) (by assumption) ?_
                    rotate_left
                    · (intro w hSw; (try dsimp only at hSw); go_simp; try with_reducible rfl)
                    simp only [Act.put, List.getElem_toArray, List.getElem_cons_succ, List.getElem_cons_zero, List.setIfInBounds_toArray, List.set_cons_zero, List.set_cons_succ]
                    refine wpAnyH_take (i := 10) (v := ?_) rfl (by kernel_rfl) (by kernel_rfl) (by kernel_rfl) (fun _ _ _ h => h) (Or.inl ⟨by rfl, ?_⟩) (by assumption) ?_
                    rotate_left
                    · (intro w hSw; (try dsimp only at hSw); go_simp; try with_reducible rfl)
                    simp only [Act.put, List.getElem_toArray, List.getElem_cons_succ, List.getElem_cons_zero, List.setIfInBounds_toArray, List.set_cons_zero, List.set_cons_succ]
                    refine wpAnyH_done (by kernel_rfl) ?_ _
                    try simp only [Act.put]
                    go_wp2
                    go_meet
                    exact ⟨rfl, CL12.out.done rfl HA.out hf4 (by omega) Hha12.out Hhw12.out Hlva11.out Hlvw12.out⟩
                · have HK13 := Lib.hid hK
                  clear hK
                  simp only [List.getElem_toArray, List.getElem_cons_succ, List.getElem_cons_zero]
                  refine wp_buildSlice 55 54 1 #[(0, .tmp 211)] rfl x.cs ir (.agg zero20) under_want hir hzr (by rw [hsr]; decide) (by rw [hsr]; decide) (by rw [hsr]; refine Eq.trans (congrArg (Instr.fill _ _) (show _ = [(0, Value.agg x.cs)] from ?_)) (fill_row x.cs _ HZ.out ?_); (first | (rw [Array.toList_map]; kernel_rfl) | kernel_rfl | rfl); (rw [Array.size_map, Array.size_range])) ?_
                  have hb13 := World.alloc_heap_new U0 (.cells x.cs 54)
                  have ht13 : Frm.Turn [] U0 (U0.alloc (.cells x.cs 54)) := (Frm.Turn.refl [] U0).alloc _
                  generalize U0.alloc _ = V13 at hb13 ht13 ⊢
                  have TV13 := Lib.hid (TU0.out.trans ht13 (by simp))
                  obtain ⟨q13, HQ13⟩ : ∃ q, Hid (q = U0.heap.size) := ⟨_, Lib.hid rfl⟩
                  rw [← HQ13.out] at hb13 ⊢
                  have HB13 := Lib.hid hb13
                  clear hb13 ht13
                  refine HK13.out _ _ (HSR.out _ (show _ = _ from TV13.out.keep HR0.out.own (by simp <;> first | omega | exact hbq))) (fun hHeld => ?_)
                  refine wpAnyH_ready (rs := [2]) (by kernel_rfl) (by simp) ?_
                  refine AllReadyH.cons rfl (fun K hK => ?_) AllReadyH.nil
                  have HK14 := Lib.hid hK
                  clear hK
                  simp only [List.getElem_toArray, List.getElem_cons_succ, List.getElem_cons_zero]
                  go_simp
                  (go_at_call 24; go_must (with_reducible refine (HCL.out _ TV13.out).mono ?_))
                  rintro e V14 hN
                  obtain ⟨nb, M', rfl, hcl, hT⟩ := cln_start (HR0.out.step TV13.out) hN
                  have hcl2 : Cln w1 wc j st ga ca gw cw i x Bo y2 bw x.A x.cs x.G nb M' V14.heap.size V14 := cln_back TV13.out HR0.out hcl
                  have CL14 := Lib.hid hcl2
                  have TV14 : Hid (Frm.Turn [] wc V14) := Lib.hid (TV13.out.trans hT (by simp))
                  have hTsave14 := hT
                  clear hN hcl hcl2 hT
                  have HBW14 := Lib.hid ((show Frm.Turn [] V13 V14 from hTsave14).keep HB13.out (by simp))
                  refine HK14.out _ _ (HSR.out _ (show _ = _ from TV14.out.keep HR0.out.own (by simp <;> first | omega | exact hbq))) (fun hHeld => ?_)
                  refine wpAnyH_ready (rs := [3]) (by kernel_rfl) (by simp) ?_
                  refine AllReadyH.cons rfl (fun K hK => ?_) AllReadyH.nil
                  have HK15 := Lib.hid hK
                  clear hK
                  simp only [List.getElem_toArray, List.getElem_cons_succ, List.getElem_cons_zero]
                  go_simp
                  have hb15 := World.alloc_heap_new V14 (.cells #[.pointer (some ⟨nb, 0, none⟩)] 25)
                  have ht15 : Frm.Turn [] V14 (V14.alloc (.cells #[.pointer (some ⟨nb, 0, none⟩)] 25)) := (Frm.Turn.refl [] V14).alloc _
                  generalize V14.alloc _ = V15 at hb15 ht15 ⊢
                  have TV15 := Lib.hid (TV14.out.trans ht15 (by simp))
                  obtain ⟨q15, HQ15⟩ : ∃ q, Hid (q = V14.heap.size) := ⟨_, Lib.hid rfl⟩
                  rw [← HQ15.out] at hb15 ⊢
                  have HB15 := Lib.hid hb15
                  have CL15 := Lib.hid (CL14.out.step ht15)
                  have HbW15 := Lib.hid (ht15.keep HBW14.out (by simp))
                  clear hb15 ht15
                  refine HK15.out _ _ (HSR.out _ (show _ = _ from TV15.out.keep HR0.out.own (by simp <;> first | omega | exact hbq))) (fun hHeld => ?_)
                  refine wpAnyH_ready (rs := [4]) (by kernel_rfl) (by simp) ?_
                  refine AllReadyH.cons rfl (fun K hK => ?_) AllReadyH.nil
                  have HK16 := Lib.hid hK
                  clear hK
                  simp only [List.getElem_toArray, List.getElem_cons_succ, List.getElem_cons_zero]
                  refine wp_append_row (.tmp 205) (.tmp 208) 51 rfl 25 ip (.pointer none) 1 8 under_all hip hzp hsp hbp rfl (by decide) ga st.length ca (st.map One.ptr) rfl (Frm.owns_turn HR0.out.many.all TV15.out (by simp)) ⟨q15, 0, none⟩ 1 1 [.pointer (some ⟨nb, 0, none⟩)] rfl rfl (news_at HB15.out) (by simp [Value.oneCell']) (by unfold maxLen; omega) (by omega) ?_
                  intro va V16 hown hg hloc
                  obtain ⟨ga9, ca9, rfl⟩ := ownsRow_succ hown
                  have hT : Frm.Turn [ga] V15 V16 := by simpa using Frm.Turn.of_grown hg
                  have TV16 := Lib.hid ((TV15.out.mono (G := [ga]) (by simp)).trans hT (fun k hk => .inl hk))
                  have Hha16 := Lib.hid hown
                  have CL16 := Lib.hid (CL15.out.grow (.inl rfl) hT)
                  have Hlva16 : Hid (∀ k, (Value.slice (some ⟨ga9, 0, none⟩) (st.length + 1) ca9).ownBlock = some k → k = ga ∨ V14.heap.size ≤ k) := Lib.hid (fun k hk => loc_up hloc CL15.out.up.2 k hk)
                  have HBW16 := Lib.hid (hT.keep HbW15.out (by simp; exact fun e => by have h1 := HQ13.out; have h2 := HR0.out.many.lt; have h3 := TU0.out.size; omega))
                  clear hown hg hloc hT
                  refine HK16.out _ _ (HSR.out _ (show _ = _ from TV16.out.keep HR0.out.own (by simp <;> first | omega | exact hbq))) (fun hHeld => ?_)
                  refine wpAnyH_ready (rs := [8]) (by kernel_rfl) (by simp) ?_
                  refine AllReadyH.cons rfl (fun K hK => ?_) AllReadyH.nil
                  have HK17 := Lib.hid hK
                  clear hK
                  simp only [List.getElem_toArray, List.getElem_cons_succ, List.getElem_cons_zero]
                  refine wp_append_row (.tmp 210) (.tmp 212) 55 rfl 54 ir (.agg zero20) 20 176 under_want hir hzr hsr hbr rfl (by decide) gw st.length cw (rowOf st) rfl (Frm.owns_turn HR0.out.many.want TV16.out (by simp [Value.ownBlock]; exact HR0.out.many.ne.symm)) ⟨q13, 0, none⟩ 1 1 x.cs.toList rfl (by rw [Array.length_toList, HZ.out]) (news_at (by simpa using HBW16.out)) (by have := (ref_size HR0.out.ref).2; intro u hu; exact Array.all_eq_true_iff_forall_mem.1 this u (by simpa using hu)) (by unfold maxLen; omega) (by omega) ?_
                  intro vw V17 hown hg hloc
                  obtain ⟨gw9, cw9, rfl⟩ := ownsRow_succ hown
                  have hT : Frm.Turn [gw] V16 V17 := by simpa using Frm.Turn.of_grown hg
                  have TV17 := Lib.hid ((TV16.out.mono (G := [ga, gw]) (by simp)).trans (hT.mono (by simp)) (fun k hk => .inl hk))
                  have Hhw17 := Lib.hid hown
                  have CL17 := Lib.hid (CL16.out.grow (.inr rfl) hT)
                  have Hlvw17 : Hid (∀ k, (Value.slice (some ⟨gw9, 0, none⟩) (st.length + 1) cw9).ownBlock = some k → k = gw ∨ V14.heap.size ≤ k) := Lib.hid (fun k hk => loc_up hloc CL16.out.up.2 k hk)
                  have Hha17 := Lib.hid (Frm.owns_turn Hha16.out hT (fun k hk hk' => by simp at hk'; subst hk'; rcases Hlva16.out _ hk with e | e; exact HR0.out.many.ne e.symm; have h2 := HR0.out.many.lt; have h3 := CL16.out.up.1; omega))
                  clear hown hg hloc hT
                  refine HK17.out _ _ (HSR.out _ (show _ = _ from TV17.out.keep HR0.out.own (by simp <;> first | omega | exact hbq))) (fun hHeld => ?_)
                  refine wpAnyH_take (i := 9) (v := ?_) rfl (by kernel_rfl) (by kernel_rfl) (by kernel_rfl) (fun _ _ _ h => h) (Or.inl ⟨by rfl, ?_⟩) (by assumption) ?_
                  rotate_left
                  · (intro w hSw; (try dsimp only at hSw); go_simp; try with_reducible rfl)
                  simp only [Act.put, List.getElem_toArray, List.getElem_cons_succ, List.getElem_cons_zero, List.setIfInBounds_toArray, List.set_cons_zero, List.set_cons_succ]
                  refine wpAnyH_take (i := 10) (v := ?_) rfl (by kernel_rfl) (by kernel_rfl) (by kernel_rfl) (fun _ _ _ h => h) (Or.inl ⟨by rfl, ?_⟩) (by assumption) ?_
                  rotate_left
                  · (intro w hSw; (try dsimp only at hSw); go_simp; try with_reducible rfl)
                  simp only [Act.put, List.getElem_toArray, List.getElem_cons_succ, List.getElem_cons_zero, List.setIfInBounds_toArray, List.set_cons_zero, List.set_cons_succ]
                  refine wpAnyH_done (by kernel_rfl) ?_ _
                  try simp only [Act.put]
                  go_wp2
                  go_meet
                  exact ⟨rfl, CL17.out.done rfl HA.out hf4 (by omega) Hha17.out Hhw17.out Hlva16.out Hlvw17.out⟩
              · have hfew3 : decide ((st.length : Int) < 4) = false := by simpa using hfew2
                go_wp2
                go_meet
                exact ⟨rfl, _, ga, ca, gw, cw, x, Bo, y2, _, _, _, rfl, rfl, hmore.out, rfl, fun k z hz _ => HA.out k z hz⟩
        case rest =>
          obtain ⟨rfl, st2, ga2, ca2, gw2, cw2, x2, Bo2, y3, R2, CS2, G2, rfl, rfl, hR2, hRx, hoth⟩ := hcut
          refine HK57.out _ _ ?_
          have HR2 := Lib.hid hR2
          have hpl := sw_store hR2 hRx hoth
          have hi2 : i < st2.length := (List.getElem?_eq_some_iff.1 hR2.at_).1
          have hf2 : st2.length ≤ 4 := hR2.many.few
          have HPL := Lib.hid hpl
          have HZ2 := Lib.hid (ref_size hR2.ref)
          have HTH := Lib.hid (hR2.many.there_at hi2)
          clear hR2 hpl hRx hoth
          go_wp2_with (first
            | (refine wpList_load_row rfl 54 (.tmp 23) rfl bw rfl 54 CS2 (0, 0) (.struct fs) HR2.out.own HFS.out rfl (by rw [HZ2.out.1]; exact info_refA) ?_)
            | (refine wpList_store_mid rfl 54 (.tmp 370) (.tmp 369) rfl gw2 (i * 20) CS2 rfl rfl (by rw [HZ2.out.1]; exact HTH.out) (by rw [HZ2.out.1]; exact info_refA) HZ2.out.2 ?_))
          refine ⟨⟨j + 1, by omega, by go_num, HPL.out⟩, ?_⟩
          simp [intOf]; omega
    · as_aux_lemma =>
        have hpos : 0 < st.length := hM.pos
        have hfew : st.length ≤ 4 := hM.few
        have HM := Lib.hid hM
        have HA := Lib.hid hA
        clear hM hA
        go_wp2_with fail
        obtain ⟨kk, hkk⟩ : ∃ kk : Nat, max 0 (min most 100) = (kk : Int) := ⟨(max 0 (min most 100)).toNat, by omega⟩
        simp only [hkk]
        clear hkk
        rename_i hK0
        obtain ⟨L, hL0⟩ : ∃ L, L = endC := ⟨_, rfl⟩
        have hL := hL0
        simp only [endC, cblk, csnd, cfst, nth, Option.getD_some, Try.f3] at hL
        rw [← hL, hL0]
        obtain ⟨R, hR0⟩ : ∃ R, R = restC := ⟨_, rfl⟩
        have hR := hR0
        simp only [restC, csnd, nth, Option.getD_some, Try.f3] at hR
        rw [← hR, hR0] at hK0
        clear hL hR hL0 hR0
        exact plays_end hc hl hj HT1 HM HA hpos hfew hK0
end Arn
end Go.Proofs.Ytgjgoflkbcmgnaa
