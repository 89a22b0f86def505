/- The walk of ClaimPlays. -/
import Derived.Test.YtolcpfidmpoipaaGreatPlayJoin
set_option linter.unusedVariables false
set_option linter.unusedSimpArgs false
namespace Go.Proofs.YtolcpfidmpoipaaGreat
namespace Evn
open Go.RowKit Go.Maps Arn Pac Clm
set_option maxRecDepth 100000 in
set_option maxHeartbeats 8000000 in
theorem plays_any (cap : Int) (q : Nat) (v2 : Value) (z2 : Nat → Int) (m : Nat) (w : World) (hq : q < 256) (hb2 : BytesC w v2 z2 m) (hz2 : ∀ i, i < m → 0 ≤ z2 i ∧ z2 i < 256) (hm : m ≤ 9223372036854775807) :
    Calls Tryz.prog 3 #[.int .i64 cap, .int .u8 q, v2] w fun e w' => e = .returned (.bool true) ∧ Frm.Turn [] w w' := by
  have HF : Hid (Calls Tryz.prog 4 #[] w fun e w' => e = .returned (.bool true) ∧ Frm.Turn [] w w') := Lib.hid (first_any w)
  obtain ⟨⟨ao2, vc2, rfl⟩, hb2'⟩ := hb2
  have HB2 := Lib.hid hb2'
  have HZ2 := Lib.hid hz2
  clear hb2' hz2
  by_cases hbad : 600 < m ∨ cap < 0 ∨ 3000 < cap
  · have hc : ((600 : Int) < (m : Int)) ∨ (¬ (600 : Int) < (m : Int) ∧ cap < 0) ∨ (¬ (600 : Int) < (m : Int) ∧ ¬ cap < 0 ∧ 3000 < cap) := by omega
    clear hbad HB2 HZ2 hm
    rcases hc with h | ⟨h, h1⟩ | ⟨h, h1, h2⟩
    all_goals
      go_enter Tryz.func3, Tryz.ntmps3
      go_wp2_with (first
        | (go_at_call 4; (with_reducible refine (HF.out).mono ?_); rintro e w1 ⟨rfl, hT⟩; have HT1 := Lib.hid hT; clear hT))
      go_ret
      exact ⟨rfl, HT1.out⟩
  · obtain ⟨h0, h1, h2⟩ : m ≤ 600 ∧ 0 ≤ cap ∧ cap ≤ 3000 := by omega
    have g0 : ¬ (600 : Int) < (m : Int) := by omega
    have g1 : ¬ cap < 0 := by omega
    have g2 : ¬ (3000 : Int) < cap := by omega
    have HM := Lib.hid h0
    obtain ⟨cap, rfl⟩ : ∃ c : Nat, cap = (c : Int) := ⟨cap.toNat, by omega⟩
    obtain ⟨fs, hfs⟩ := struct_of under_refA
    have HFS := Lib.hid hfs
    obtain ⟨i1, hi1, hz10, hz11, hz12⟩ := info_parts info_one
    obtain ⟨cnt, HC⟩ : ∃ c : Nat, Hid (c = 1 + q % 8) := ⟨_, Lib.hid rfl⟩
    have e1 : (1 + (q : Int) % 8) = (cnt : Int) := by rw [HC.out]; omega
    have hc1 : 1 ≤ cnt := by rw [HC.out]; omega
    have hc2 : cnt ≤ 8 := by rw [HC.out]; omega
    have q0 : (0 : Int) ≤ (q : Int) % 8 := by omega
    have q1 : (q : Int) % 8 ≤ 7 := by omega
    obtain ⟨N20, HN20⟩ : ∃ x, Hid (x = zc20 cap) := ⟨_, Lib.hid rfl⟩
    have hbt : Tryz.prog.built 34 [(0, .int .i64 (cap : Int))] = some (zc20 cap) := by kernel_rfl
    rw [← HN20.out] at hbt
    obtain ⟨N24, HN24⟩ : ∃ x, Hid (x = z24) := ⟨_, Lib.hid rfl⟩
    have HNW : Hid (∀ W, Frm.Turn [] w W → Calls Tryz.prog 5 #[.int .i64 cap] W fun e w' => ∃ b, e = .returned (.tuple #[.pointer (some ⟨b, 0, none⟩), .int .i64 0]) ∧ Kin w b [] (Ar.new cap) 0 w') :=
      Lib.hid fun W hT => (sin_new cap W (by omega)).mono fun e w' ⟨b, M, he, h2⟩ => ⟨b, he, M, ⟨h2.at_, fun k hk => Nat.le_trans hT.size (h2.new k hk), hT.trans h2.turn (by simp), h2.low, h2.born⟩, by simp⟩
    clear hm hbad h0 h1 h2
    go_enter Tryz.func3, Tryz.ntmps3
    go_upto_region 6 with (first
      | (go_at_call 4; (with_reducible refine (HF.out).mono ?_); rintro e w1 ⟨rfl, hT⟩; have HT1 := Lib.hid hT; clear hT)
      | (go_at_call 5; (with_reducible refine (HNW.out _ HT1.out).mono ?_); rintro e w2 ⟨b, rfl, h⟩; have HK := Lib.hid h; clear h))
    refine wp_region_lit ?_
    refine wpList_plain rfl fun K hK => ?_
    go_simp
    refine hK _ _ ?_
    clear hK K
    refine wpList_buildTo rfl 34 #[(0, .tmp 40)] rfl (some 41) rfl N20 (by simp only [List.map_toArray, List.map_cons, List.map_nil]; exact hbt) ?_
    refine wpList_plain rfl fun K hK => ?_
    go_simp
    refine hK _ _ ?_
    clear hK K
    refine wpList_store_row rfl 34 (.tmp 9) (.tmp 41) rfl w2.heap.size N20 rfl rfl 34 _ (World.alloc_heap_new w2 _) (by rw [HN20.out]; exact info_refA) (by rw [HN20.out]; rfl) (by rw [HN20.out]; simp [zc20, Value.oneCell']) ?_
    have HS0 := Lib.hid (play_start HN20.out HK.out)
    unfold zc20 at HS0
    generalize World.setRow _ w2.heap.size N20 = w3 at HS0 ⊢
    generalize w2.heap.size = mb at HS0 ⊢
    clear HNW HF HT1 HK hbt HN20
    clear w1 w2
    go_wp2_with fail
    go_loopw [10, 46] (fun v i wr => ∃ g : Nat, g ≤ cnt ∧ i = .int .i64 g ∧ PlayR w b mb g v 0 wr) (fun _ i _ => cnt - (intOf i).toNat)
    case atStart => exact ⟨0, Nat.zero_le _, rfl, HS0.out⟩
    case round =>
      obtain ⟨v, hv⟩ : ∃ v, v = u10 := ⟨_, rfl⟩
      subst hv
      obtain ⟨g, hg, rfl, hrel⟩ := hrel
      clear HS0
      by_cases hlt : g < cnt
      · obtain ⟨rr, ee, ct, K, CS, Gm, A, k, c, E, CE, lv, G, P, hk⟩ := hrel
        have HG8 : Hid (g < 8) := Lib.hid (by omega)
        have HP := Lib.hid P
        have HKK := Lib.hid hk
        have HCN := Lib.hid (new_any (b := b) ((g : Int) + 1) wr)
        have hb24 : Tryz.prog.built 41 [] = some N24 := by rw [HN24.out]; kernel_rfl
        have HOW := Lib.hid (fun W (hT : Frm.Turn [] wr W) => Frm.owns_turn P.row hT (by simp))
        have HSZ := Lib.hid (fun W (hT : Frm.Turn [] wr W) => Nat.le_trans P.kin.turn.size hT.size)
        have hgc : (g : Int) < (cnt : Int) := by omega
        have hg0 : (g : Int) ≤ 7 := by omega
        have HLT := Lib.hid hlt
        clear P hk hlt hg
        go_wp2_with (first
          | (go_at_call 6; (with_reducible refine (HCN.out).mono ?_); rintro e w4 ⟨rfl, h1, h2, h3⟩; have HX1 := Lib.hid h1; have HX2 := Lib.hid h2; have HX3 := Lib.hid h3; have HLI := Lib.hid (World.ownsRow_lit (base := 0) (e := 43) (size := 3) (w4.alloc (.cells N24 41)) #[.pointer (some ⟨wr.heap.size, 0, none⟩), .pointer (some ⟨w4.heap.size, 0, none⟩), .int .i64 0] 1 (Nat.zero_le _) (by simp [maxLen]) rfl); rw [World.size_alloc] at HLI; clear h1 h2 h3)
          | (refine wpList_buildTo rfl 41 #[] rfl (some 55) rfl N24 (by simp only [List.map_toArray, List.map_cons, List.map_nil]; exact hb24) ?_)
          | (at_builtin; go_must (refine Frm.wpList_append_rows _ rfl (.tmp 49) (.tmp 58) 35 rfl w.heap.size 43 i1 _ 3 24 under_ones hi1 hz10 hz11 hz12 rfl (by decide) v g (lane rr ee ct g) rfl (HOW.out _ ((HX2.out.alloc _).alloc _)) (.slice (some ⟨w4.heap.size + 1, 0, none⟩) 1 1) rfl 1 0 _ HLI.out (by simp [Value.oneCell']) (by unfold maxLen; have := HG8.out; omega) (by have := HG8.out; omega) (HSZ.out _ ((HX2.out.alloc _).alloc _)) ?_); intro v9 w9 hown9 hg9 hl9; have HO9 := Lib.hid hown9; have HG9 := Lib.hid hg9; have HL9 := Lib.hid hl9; clear hown9 hg9 hl9))
        refine ⟨⟨g + 1, HLT.out, by simp, ?_⟩, ?_⟩
        · obtain ⟨rr', ee', ct', K', CS', Gm', A', k', c', E', CE', lv', G', h1, h2⟩ := play_join HP.out HG8.out HN24.out HX1.out HX2.out HX3.out HO9.out HG9.out HL9.out
          exact ⟨rr', ee', ct', K', CS', Gm', A', k', c', E', CE', lv', G', h1, Nat.le_trans h2 HKK.out⟩
        · have := HLT.out
          simp [intOf]; omega
      · obtain rfl : cnt = g := by omega
        have hvf : ∃ lb vc, v = .slice (some ⟨lb, 0, none⟩) cnt vc := by
          obtain ⟨rr, ee, ct, K, CS, Gm, A, k, c, E, CE, lv, G, P, hk⟩ := hrel
          rcases P.row.2 with ⟨_, e⟩ | ⟨lb, vc, cur, e, _⟩
          · omega
          · exact ⟨lb, vc, e⟩
        obtain ⟨lb, vc, rfl⟩ := hvf
        have HR0 := Lib.hid hrel
        have HCN1 := Lib.hid hc1
        have HCN8 := Lib.hid hc2
        have hngc : ¬ (cnt : Int) < (cnt : Int) := by omega
        clear hrel hg hlt
        go_wp2_with fail
        go_loopw [63] (fun i wr => ∃ j : Nat, j ≤ m ∧ i = .int .i64 j ∧ PlayR w b mb cnt (.slice (some ⟨lb, 0, none⟩) cnt vc) (2 * j) wr) (fun i _ => m - (intOf i).toNat)
        case atStart => exact ⟨0, Nat.zero_le _, rfl, HR0.out⟩
        case round =>
          obtain ⟨j, hj, rfl, rr, ee, ct, K, CS, Gm, A, k, c, E, CE, lv, G, P, hk⟩ := hrel
          clear HR0
          by_cases hlt : j < m
          · rcases HB2.out with e | ⟨ga2, gc2, e, hcell2⟩
            · omega
            cases e
            have hcj := P.kin.turn.cell (hcell2 j hlt) (by simp)
            obtain ⟨y0, y1⟩ := HZ2.out j hlt
            obtain ⟨i, hi⟩ : ∃ i : Nat, z2 j % (cnt : Int) = (i : Int) := ⟨(z2 j % (cnt : Int)).toNat, by have := Int.emod_nonneg (z2 j) (show (cnt : Int) ≠ 0 by omega); omega⟩
            have hin : i < cnt := by have := Int.emod_lt_of_pos (z2 j) (show (0 : Int) < cnt by omega); omega
            obtain ⟨l0, l1, l2⟩ := P.cells hin
            have hj1 : (j : Int) < (m : Int) := by omega
            have hj600 : (j : Int) ≤ 600 := by have := HM.out; omega
            have hin1 : (i : Int) < (cnt : Int) := by omega
            have hi0 : (0 : Int) ≤ (i : Int) := by omega
            have hi8 : (i : Int) ≤ 7 := by omega
            have hn0 : (0 : Int) < (cnt : Int) := by omega
            have HJ := Lib.hid (And.intro hlt (And.intro hin hk))
            have HP := Lib.hid P
            obtain ⟨d, hd⟩ : ∃ d, d = decide ((c i).st = 0) := ⟨_, rfl⟩
            have h5 := (P.fit hin).st
            have HDN := Lib.hid (fun W' (hT : Frm.Turn [] wr W') => Clm.done_any ((P.cl i hin).turn hT (by simp)) h5)
            rw [← hd] at HDN
            obtain ⟨t0, t1⟩ := P.cn i hin
            have t2 : ct i ≤ 100000 := by have := HM.out; omega
            have HD := Lib.hid hd
            clear hcell2 hlt hj hin hk P h5 hd t1
            generalize z2 j = zj at hcj y0 y1 hi
            generalize hcti : ct i = cti at l2 t0 t2
            have HCTI := Lib.hid hcti
            clear hcti
            go_upto_if 78 with (go_at_call 7; (with_reducible refine (HDN.out _ ((Frm.Turn.refl [] wr).alloc _)).mono ?_); rintro e w4 ⟨rfl, rfl⟩)
            clear HDN hcj y0 y1 hi
            have HP1 := Lib.hid (HP.out.box (.cells #[.pointer (some ⟨rr i, 0, none⟩), .pointer (some ⟨ee i, 0, none⟩), .int .i64 cti] 43))
            have HX1 := Lib.hid (World.alloc_heap_new wr (.cells #[.pointer (some ⟨rr i, 0, none⟩), .pointer (some ⟨ee i, 0, none⟩), .int .i64 cti] 43))
            obtain ⟨xb, HXB⟩ : ∃ x, Hid (x = wr.heap.size) := ⟨_, Lib.hid rfl⟩
            have HLX : Hid (lb < xb) := Lib.hid (by rw [HXB.out]; exact HP.out.kin.lt (HP.out.kv lb (by simp [Value.ownBlock])))
            rw [← HXB.out] at HP1 HX1 ⊢
            generalize wr.alloc (.cells #[.pointer (some ⟨rr i, 0, none⟩), .pointer (some ⟨ee i, 0, none⟩), .int .i64 cti] 43) = w1 at HP1 HX1 ⊢
            clear HXB HP
            cases d with
            | true =>
              have HPL := Lib.hid (place_any (HP1.out.cl i HJ.out.2.1))
              obtain ⟨ow, how⟩ : ∃ o, o = (c i).own := ⟨_, rfl⟩
              obtain ⟨sg, hsg⟩ : ∃ x, x = if (c i).own then (c i).seg else 0 := ⟨_, rfl⟩
              obtain ⟨sl, hsl⟩ : ∃ x, x = if (c i).own then ((c i).slot : Int) else 0 := ⟨_, rfl⟩
              rw [← hsg, ← hsl, ← how] at HPL
              have HOW := Lib.hid (And.intro how (And.intro hsg hsl))
              clear how hsg hsl l0 l1 l2
              have hx1 := HX1.out
              have x0 := (Frm.cell_row _ _ 0 _ _ _ hx1).trans rfl
              clear hx1
              go_upto_if 85 with (go_at_call 8; (with_reducible refine (HPL.out).mono ?_); rintro e w5 ⟨rfl, hT⟩; have HT5 := Lib.hid hT; clear hT)
              have HP6 := Lib.hid ((HP1.out.still HT5.out).box (.cells #[.int .u64 sg, .int .i64 sl] 45))
              have HX6 := Lib.hid ((HT5.out.alloc (.cells #[.int .u64 sg, .int .i64 sl] 45)).keep HX1.out (by simp))
              have HB6 := Lib.hid (World.alloc_heap_new w5 (.cells #[.int .u64 sg, .int .i64 sl] 45))
              clear HPL HP1 HX1 HT5 x0
              generalize w5.heap.size = pb at HP6 HB6 ⊢
              generalize w5.alloc (.cells #[.int .u64 sg, .int .i64 sl] 45) = w6 at HP6 HX6 HB6 ⊢
              go_cut [] (fun W2 => Anew w b mb cnt (.slice (some ⟨lb, 0, none⟩) cnt vc) rr ee ct k xb (.cells #[.pointer (some ⟨rr i, 0, none⟩), .pointer (some ⟨ee i, 0, none⟩), .int .i64 cti] 43) c E CE lv G W2)
              case first =>
                cases ow with
                | false =>
                  go_wp2_with fail
                  go_meet
                  exact ⟨_, _, _, _, k, by omega, HP6.out, HX6.out, by simp⟩
                | true =>
                  obtain ⟨h1, h2, h3⟩ := HOW.out
                  rw [← h1] at h2 h3
                  simp only [if_true] at h2 h3
                  have hf := HP6.out.fit HJ.out.2.1
                  have hlim := HP6.out.lim (by have := HJ.out.2.2; have := HM.out; have := HJ.out.1; omega)
                  have hwr := HP6.out.writes
                  obtain ⟨s, hs⟩ : ∃ s : Nat, s = (c i).slot := ⟨_, rfl⟩
                  rw [← hs] at h3
                  have hs255 : s < 255 := by rw [hs]; exact hf.slot
                  have HSG : Hid (W64 sg) := Lib.hid (by rw [h2]; exact hf.seg)
                  obtain ⟨o1, o2, o3, o4, o5⟩ := sg_facts hs255
                  have HWF : Hid ((Lit.int .i64 (5 * (ofN s : Int))).wf = true) := Lib.hid (by simp [Lit.wf, IntKind.min, IntKind.max, IntKind.bits, IntKind.signed]; omega)
                  have HWD := Lib.hid (fun W => RWord_any sg s W hs255)
                  have HK1 : Hid (k ≤ 100000 ∧ A.t.writes ≤ 100000000) := Lib.hid (by have := HJ.out.2.2; have := HM.out; have := HJ.out.1; exact ⟨by omega, by omega⟩)
                  have HLIM := Lib.hid hlim
                  subst h3
                  have hp6 := HB6.out
                  have p0 := (Frm.cell_row _ _ 0 _ _ _ hp6).trans rfl
                  have p1 := (Frm.cell_row _ _ 1 _ _ _ hp6).trans rfl
                  clear h1 h2 hf hs hs255 o1 o2 o3 o4 o5 hp6 hlim hwr
                  go_upto_region 22 with (first
                    | (go_at_call 10; (with_reducible refine (HWD.out _).mono ?_); rintro e w7 ⟨rfl, hT⟩; have HT7 := Lib.hid hT; have HWR := Lib.hid ((HP6.out.still hT).write HK1.out.1 sg (5 * (ofN s : Int)) 0 HSG.out HWF.out (by unfold W64; omega)); clear hT)
                    | (go_at_call 9; (with_reducible refine (HWR.out).mono ?_); rintro e w8 ⟨rfl, hP, hB⟩; have HP8 := Lib.hid hP; have HB8 := Lib.hid hB; clear hP hB))
                  have HX8 := Lib.hid (HB8.out.heap0 (k := xb) (by simp) (HT7.out.keep HX6.out (by simp)))
                  have hp8 := HB8.out.heap0 (k := pb) (by simp) (HT7.out.keep HB6.out (by simp))
                  have HM8 := Lib.hid HP8.out.mown
                  have HNE : Hid (xb ≠ mb) := Lib.hid (heap_ne HX8.out HM8.out (by decide))
                  have hpm : pb ≠ mb := heap_ne hp8 HM8.out (by decide)
                  have HCZ := Lib.hid HP8.out.size.1
                  have HMW := Lib.hid (fun W (hT : Frm.Turn [] w8 W) => (HP8.out.still hT).mwrite HLIM.out HK1.out.2 sg (5 * (ofN s : Int)) 0)
                  have HPC : Hid (∀ W, Frm.Turn [mb] w8 W → W.cell? ⟨pb, 0, none⟩ = some (.int .u64 sg) ∧ W.cell? ⟨pb, 1, none⟩ = some (.int .i64 (s : Int))) := Lib.hid fun W hT => by
                    have h := hT.keep hp8 (by simpa using hpm)
                    exact ⟨(Frm.cell_row _ _ 0 _ _ _ h).trans rfl, (Frm.cell_row _ _ 1 _ _ _ h).trans rfl⟩
                  have HTD := Lib.hid (Frm.Turn.refl [] w8).drew
                  clear HP8 HB8 HWR HT7 hp8 p0 p1 hpm
                  refine wp_region_held_drew (S := fun W' => Frm.Turn [mb] w8 W') (by kernel_rfl) ?_ (fun hHeld => ?_)
                  · exact HTD.out.mono (by simp)
                  refine wpAnyH_take (i := 1) (v := ?_) rfl (by kernel_rfl) (by kernel_rfl) (by kernel_rfl) (fun _ _ _ h => h) (Or.inl ⟨by rfl, ?_⟩) (by assumption) ?_
                  rotate_left
                  · (intro w hSw; (try dsimp only at hSw); obtain ⟨x0, x1⟩ := HPC.out w hSw; go_simp; try with_reducible rfl)
                  try simp only [Act.put, List.getElem_toArray, List.getElem_cons_succ, List.getElem_cons_zero, List.setIfInBounds_toArray, List.set_cons_zero, List.set_cons_succ]
                  refine wpAnyH_ready (rs := [0, 2]) (by kernel_rfl) (by simp) ?_
                  refine (AllReadyH.cons rfl (fun K hK => ?_) (AllReadyH.cons rfl (fun K hK => ?_) AllReadyH.nil))
                  · try simp only [List.getElem_toArray, List.getElem_cons_succ, List.getElem_cons_zero]
                    rw [if_pos (by rfl)]
                    refine wp_load_row 34 (.tmp 9) (by rfl) mb (by rfl) 34 CS (0, 0) (.struct fs) HM8.out HFS.out rfl (by rw [HCZ.out]; exact info_refA) ?_
                    refine hK.out _ _ (hHeld) (fun hHeld1 => ?_)
                    clear hK K
                    try simp only [Act.put, List.getElem_toArray, List.getElem_cons_succ, List.getElem_cons_zero, List.setIfInBounds_toArray, List.set_cons_zero, List.set_cons_succ]
                    refine wpAnyH_ready (rs := [2]) (by kernel_rfl) (by simp) ?_
                    refine AllReadyH.cons rfl (fun K hK => ?_) AllReadyH.nil
                    try simp only [List.getElem_toArray, List.getElem_cons_succ, List.getElem_cons_zero]
                    go_simp
                    (go_at_call 10; (with_reducible refine (HWD.out _).mono ?_); rintro e w9 ⟨rfl, hT9⟩)
                    have hTA := HTD.out.trans hT9 (by simp)
                    try go_wp2_with fail
                    refine hK.out _ _ (hTA.mono (by simp)) (fun hHeld2 => ?_)
                    clear hK K
                    try simp only [Act.put, List.getElem_toArray, List.getElem_cons_succ, List.getElem_cons_zero, List.setIfInBounds_toArray, List.set_cons_zero, List.set_cons_succ]
                    refine wpAnyH_ready (rs := [3]) (by kernel_rfl) (by simp) ?_
                    refine AllReadyH.cons rfl (fun K hK => ?_) AllReadyH.nil
                    try simp only [List.getElem_toArray, List.getElem_cons_succ, List.getElem_cons_zero]
                    go_simp
                    (go_at_call 11; (with_reducible refine (HMW.out _ hTA).mono ?_); rintro e w10 ⟨CS1, rfl, hz1, ho1, hT10, G1, K1, hK1, hP1⟩)
                    try go_wp2_with fail
                    have hTG : Frm.Turn [mb] w8 w10 := (hTA.trans hT10 (by simp)).mono (by simp)
                    have hTF : Frm.Turn [mb] w8 (w10.setRow mb CS1) := setRow_turn hTG (.inl (by simp)) CS1
                    refine hK.out _ _ (hTG) (fun hHeld3 => ?_)
                    clear hK K
                    try simp only [Act.put, List.getElem_toArray, List.getElem_cons_succ, List.getElem_cons_zero, List.setIfInBounds_toArray, List.set_cons_zero, List.set_cons_succ]
                    refine wpAnyH_take (i := 4) (v := ?_) rfl (by kernel_rfl) (by kernel_rfl) (by kernel_rfl) (fun _ _ _ h => h) (Or.inl ⟨by rfl, ?_⟩) (by assumption) ?_
                    rotate_left
                    · (intro w hSw; (try dsimp only at hSw); go_simp; try with_reducible rfl)
                    try simp only [Act.put, List.getElem_toArray, List.getElem_cons_succ, List.getElem_cons_zero, List.setIfInBounds_toArray, List.set_cons_zero, List.set_cons_succ]
                    refine wpAnyH_take (i := 5) (v := ?_) rfl (by kernel_rfl) (by kernel_rfl) (by kernel_rfl) (fun _ _ _ h => h) (Or.inl ⟨by rfl, ?_⟩) (by assumption) ?_
                    rotate_left
                    · (intro w hSw; (try dsimp only at hSw); go_simp; try with_reducible rfl)
                    try simp only [Act.put, List.getElem_toArray, List.getElem_cons_succ, List.getElem_cons_zero, List.setIfInBounds_toArray, List.set_cons_zero, List.set_cons_succ]
                    refine wpAnyH_take (i := 6) (v := ?_) rfl (by kernel_rfl) (by kernel_rfl) (by kernel_rfl) (fun _ _ _ h => h) (Or.inl ⟨by rfl, ?_⟩) (by assumption) ?_
                    rotate_left
                    · (intro w hSw; (try dsimp only at hSw); go_simp; try with_reducible rfl)
                    try simp only [Act.put, List.getElem_toArray, List.getElem_cons_succ, List.getElem_cons_zero, List.setIfInBounds_toArray, List.set_cons_zero, List.set_cons_succ]
                    refine wpAnyH_ready (rs := [7]) (by kernel_rfl) (by simp) ?_
                    refine AllReadyH.cons rfl (fun K hK => ?_) AllReadyH.nil
                    try simp only [List.getElem_toArray, List.getElem_cons_succ, List.getElem_cons_zero]
                    rw [if_pos (by rfl)]
                    refine wp_store_row 34 (.tmp 9) (.tmp 95) (by rfl) mb CS1 (by rfl) (by rfl) 34 CS ((hTA.trans hT10 (by simp)).keep HM8.out (by simp)) (by rw [hz1]; exact info_refA) (by rw [hz1, HCZ.out]) ho1 ?_
                    refine hK.out _ _ (hTF) (fun hHeld4 => ?_)
                    clear hK K
                    try simp only [Act.put, List.getElem_toArray, List.getElem_cons_succ, List.getElem_cons_zero, List.setIfInBounds_toArray, List.set_cons_zero, List.set_cons_succ]
                    refine wpAnyH_done (by kernel_rfl) ?_ _
                    go_wp2_with fail
                    go_meet
                    exact ⟨K1, CS1, G1, _, k + 1, Nat.le_refl _, hP1, hTF.keep HX8.out (by simpa using HNE.out), hK1 _ (by simp)⟩
                  · try simp only [List.getElem_toArray, List.getElem_cons_succ, List.getElem_cons_zero]
                    go_simp
                    (go_at_call 10; (with_reducible refine (HWD.out _).mono ?_); rintro e w9 ⟨rfl, hT9⟩)
                    have hTA := HTD.out.trans hT9 (by simp)
                    try go_wp2_with fail
                    refine hK.out _ _ (hTA.mono (by simp)) (fun hHeld1 => ?_)
                    clear hK K
                    try simp only [Act.put, List.getElem_toArray, List.getElem_cons_succ, List.getElem_cons_zero, List.setIfInBounds_toArray, List.set_cons_zero, List.set_cons_succ]
                    refine wpAnyH_ready (rs := [0]) (by kernel_rfl) (by simp) ?_
                    refine (AllReadyH.cons rfl (fun K hK => ?_) AllReadyH.nil)
                    · try simp only [List.getElem_toArray, List.getElem_cons_succ, List.getElem_cons_zero]
                      rw [if_pos (by rfl)]
                      refine wp_load_row 34 (.tmp 9) (by rfl) mb (by rfl) 34 CS (0, 0) (.struct fs) (hTA.keep HM8.out (by simp)) HFS.out rfl (by rw [HCZ.out]; exact info_refA) ?_
                      refine hK.out _ _ (hHeld1) (fun hHeld2 => ?_)
                      clear hK K
                      try simp only [Act.put, List.getElem_toArray, List.getElem_cons_succ, List.getElem_cons_zero, List.setIfInBounds_toArray, List.set_cons_zero, List.set_cons_succ]
                      refine wpAnyH_ready (rs := [3]) (by kernel_rfl) (by simp) ?_
                      refine AllReadyH.cons rfl (fun K hK => ?_) AllReadyH.nil
                      try simp only [List.getElem_toArray, List.getElem_cons_succ, List.getElem_cons_zero]
                      go_simp
                      (go_at_call 11; (with_reducible refine (HMW.out _ hTA).mono ?_); rintro e w10 ⟨CS1, rfl, hz1, ho1, hT10, G1, K1, hK1, hP1⟩)
                      try go_wp2_with fail
                      have hTG : Frm.Turn [mb] w8 w10 := (hTA.trans hT10 (by simp)).mono (by simp)
                      have hTF : Frm.Turn [mb] w8 (w10.setRow mb CS1) := setRow_turn hTG (.inl (by simp)) CS1
                      refine hK.out _ _ (hTG) (fun hHeld3 => ?_)
                      clear hK K
                      try simp only [Act.put, List.getElem_toArray, List.getElem_cons_succ, List.getElem_cons_zero, List.setIfInBounds_toArray, List.set_cons_zero, List.set_cons_succ]
                      refine wpAnyH_take (i := 4) (v := ?_) rfl (by kernel_rfl) (by kernel_rfl) (by kernel_rfl) (fun _ _ _ h => h) (Or.inl ⟨by rfl, ?_⟩) (by assumption) ?_
                      rotate_left
                      · (intro w hSw; (try dsimp only at hSw); go_simp; try with_reducible rfl)
                      try simp only [Act.put, List.getElem_toArray, List.getElem_cons_succ, List.getElem_cons_zero, List.setIfInBounds_toArray, List.set_cons_zero, List.set_cons_succ]
                      refine wpAnyH_take (i := 5) (v := ?_) rfl (by kernel_rfl) (by kernel_rfl) (by kernel_rfl) (fun _ _ _ h => h) (Or.inl ⟨by rfl, ?_⟩) (by assumption) ?_
                      rotate_left
                      · (intro w hSw; (try dsimp only at hSw); go_simp; try with_reducible rfl)
                      try simp only [Act.put, List.getElem_toArray, List.getElem_cons_succ, List.getElem_cons_zero, List.setIfInBounds_toArray, List.set_cons_zero, List.set_cons_succ]
                      refine wpAnyH_take (i := 6) (v := ?_) rfl (by kernel_rfl) (by kernel_rfl) (by kernel_rfl) (fun _ _ _ h => h) (Or.inl ⟨by rfl, ?_⟩) (by assumption) ?_
                      rotate_left
                      · (intro w hSw; (try dsimp only at hSw); go_simp; try with_reducible rfl)
                      try simp only [Act.put, List.getElem_toArray, List.getElem_cons_succ, List.getElem_cons_zero, List.setIfInBounds_toArray, List.set_cons_zero, List.set_cons_succ]
                      refine wpAnyH_ready (rs := [7]) (by kernel_rfl) (by simp) ?_
                      refine AllReadyH.cons rfl (fun K hK => ?_) AllReadyH.nil
                      try simp only [List.getElem_toArray, List.getElem_cons_succ, List.getElem_cons_zero]
                      rw [if_pos (by rfl)]
                      refine wp_store_row 34 (.tmp 9) (.tmp 95) (by rfl) mb CS1 (by rfl) (by rfl) 34 CS ((hTA.trans hT10 (by simp)).keep HM8.out (by simp)) (by rw [hz1]; exact info_refA) (by rw [hz1, HCZ.out]) ho1 ?_
                      refine hK.out _ _ (hTF) (fun hHeld4 => ?_)
                      clear hK K
                      try simp only [Act.put, List.getElem_toArray, List.getElem_cons_succ, List.getElem_cons_zero, List.setIfInBounds_toArray, List.set_cons_zero, List.set_cons_succ]
                      refine wpAnyH_done (by kernel_rfl) ?_ _
                      go_wp2_with fail
                      go_meet
                      exact ⟨K1, CS1, G1, _, k + 1, Nat.le_refl _, hP1, hTF.keep HX8.out (by simpa using HNE.out), hK1 _ (by simp)⟩
              case rest =>
                obtain ⟨K2, CS2, Gm2, A2, k2, hk2, P2, hx2, hm2⟩ := hcut
                clear HP6 HX6 HB6 HOW
                have HPW := Lib.hid P2
                have HXW := Lib.hid hx2
                have HK2 := Lib.hid hk2
                have hw1 : IntKind.u64.wrap (IntKind.i64.wrap ((i : Int) + 1)) = (i : Int) + 1 := wrap_tok hi0 hi8
                have hw2 : IntKind.i64.wrap (cti + 1) = cti + 1 := wrap_cnt t0 t2
                have HCN := Lib.hid (fun W => new_any (b := b) ((i : Int) + 1) W)
                have hb24 : Tryz.prog.built 41 [] = some N24 := by rw [HN24.out]; kernel_rfl
                have HXC : Hid (∀ W, Frm.Turn [lb] wc W → W.cell? ⟨xb, 2, none⟩ = some (.int .i64 cti)) := Lib.hid fun W hT => by
                  have h := hT.keep HXW.out (by have := HLX.out; simp; omega)
                  exact (Frm.cell_row _ _ 2 _ _ _ h).trans rfl
                have HLC : Hid (∀ W, Frm.Turn [] wc W → W.cell? ⟨lb, i * 3, none⟩ = some (.pointer (some ⟨rr i, 0, none⟩)) ∧ W.cell? ⟨lb, i * 3 + 1, none⟩ = some (.pointer (some ⟨ee i, 0, none⟩)) ∧ W.cell? ⟨lb, i * 3 + 2, none⟩ = some (.int .i64 (ct i)) ∧ ∀ x, W.frozen? ⟨lb, x, none⟩ = false) := Lib.hid fun W hT => by
                  have h := HPW.out.still hT
                  obtain ⟨h1, h2, h3⟩ := h.cells HJ.out.2.1
                  exact ⟨h1, h2, h3, fun x => h.row.frozenAt x⟩
                have HTD := Lib.hid (Frm.Turn.refl [] wc).drew
                clear P2 hx2 hk2 hm2
                go_upto_region 23 with fail
                refine wp_region_held_drew (S := fun W' => Frm.Turn [lb] wc W') (by kernel_rfl) ?_ (fun hHeld => ?_)
                · exact HTD.out.mono (by simp)
                refine wpAnyH_take (i := 0) (v := ?_) rfl (by kernel_rfl) (by kernel_rfl) (by kernel_rfl) (fun _ _ _ h => h) (Or.inl ⟨by rfl, ?_⟩) (by assumption) ?_
                rotate_left
                · (intro w hSw; (try dsimp only at hSw); go_simp; try with_reducible rfl)
                try simp only [Act.put, List.getElem_toArray, List.getElem_cons_succ, List.getElem_cons_zero, List.setIfInBounds_toArray, List.set_cons_zero, List.set_cons_succ]
                refine wpAnyH_take (i := 1) (v := ?_) rfl (by kernel_rfl) (by kernel_rfl) (by kernel_rfl) (fun _ _ _ h => h) (Or.inl ⟨by rfl, ?_⟩) (by assumption) ?_
                rotate_left
                · (intro w hSw; (try dsimp only at hSw); go_simp; try with_reducible rfl)
                try simp only [Act.put, List.getElem_toArray, List.getElem_cons_succ, List.getElem_cons_zero, List.setIfInBounds_toArray, List.set_cons_zero, List.set_cons_succ]
                refine wpAnyH_take (i := 2) (v := ?_) rfl (by kernel_rfl) (by kernel_rfl) (by kernel_rfl) (fun _ _ _ h => h) (Or.inl ⟨by rfl, ?_⟩) (by assumption) ?_
                rotate_left
                · (intro w hSw; (try dsimp only at hSw); go_simp; try with_reducible rfl)
                try simp only [Act.put, List.getElem_toArray, List.getElem_cons_succ, List.getElem_cons_zero, List.setIfInBounds_toArray, List.set_cons_zero, List.set_cons_succ]
                refine wpAnyH_take (i := 3) (v := ?_) rfl (by kernel_rfl) (by kernel_rfl) (by kernel_rfl) (fun _ _ _ h => h) (Or.inl ⟨by rfl, ?_⟩) (by assumption) ?_
                rotate_left
                · (intro w hSw; (try dsimp only at hSw); go_simp; try with_reducible rfl)
                try simp only [Act.put, List.getElem_toArray, List.getElem_cons_succ, List.getElem_cons_zero, List.setIfInBounds_toArray, List.set_cons_zero, List.set_cons_succ]
                refine wpAnyH_take (i := 4) (v := ?_) rfl (by kernel_rfl) (by kernel_rfl) (by kernel_rfl) (fun _ _ _ h => h) (Or.inl ⟨by rfl, ?_⟩) (by assumption) ?_
                rotate_left
                · (intro w hSw; (try dsimp only at hSw); go_simp; try with_reducible rfl)
                try simp only [Act.put, List.getElem_toArray, List.getElem_cons_succ, List.getElem_cons_zero, List.setIfInBounds_toArray, List.set_cons_zero, List.set_cons_succ]
                refine wpAnyH_take (i := 5) (v := ?_) rfl (by kernel_rfl) (by kernel_rfl) (by kernel_rfl) (fun _ _ _ h => h) (Or.inl ⟨by rfl, ?_⟩) (by assumption) ?_
                rotate_left
                · (intro w hSw; (try dsimp only at hSw); go_simp; try with_reducible rfl)
                try simp only [Act.put, List.getElem_toArray, List.getElem_cons_succ, List.getElem_cons_zero, List.setIfInBounds_toArray, List.set_cons_zero, List.set_cons_succ]
                refine wpAnyH_take (i := 7) (v := .agg N24) rfl (by kernel_rfl) (by kernel_rfl) (by kernel_rfl) (fun _ _ _ h => h) (Or.inl ⟨by rfl, ?_⟩) (by assumption) ?_
                · (intro w _; exact exec_build 41 #[] (by rfl) N24 (by simp only [List.map_toArray, List.map_cons, List.map_nil]; exact hb24))
                try simp only [Act.put, List.getElem_toArray, List.getElem_cons_succ, List.getElem_cons_zero, List.setIfInBounds_toArray, List.set_cons_zero, List.set_cons_succ]
                refine wpAnyH_take (i := 9) (v := ?_) rfl (by kernel_rfl) (by kernel_rfl) (by kernel_rfl) (fun _ _ _ h => h) (Or.inl ⟨by rfl, ?_⟩) (by assumption) ?_
                rotate_left
                · (intro w hSw; (try dsimp only at hSw); go_simp; try with_reducible rfl)
                try simp only [Act.put, List.getElem_toArray, List.getElem_cons_succ, List.getElem_cons_zero, List.setIfInBounds_toArray, List.set_cons_zero, List.set_cons_succ]
                refine wpAnyH_take (i := 10) (v := ?_) rfl (by kernel_rfl) (by kernel_rfl) (by kernel_rfl) (fun _ _ _ h => h) (Or.inl ⟨by rfl, ?_⟩) (by assumption) ?_
                rotate_left
                · (intro w hSw; (try dsimp only at hSw); have x2 := HXC.out w hSw; go_simp; try with_reducible rfl)
                try simp only [Act.put, List.getElem_toArray, List.getElem_cons_succ, List.getElem_cons_zero, List.setIfInBounds_toArray, List.set_cons_zero, List.set_cons_succ]
                refine wpAnyH_take (i := 11) (v := ?_) rfl (by kernel_rfl) (by kernel_rfl) (by kernel_rfl) (fun _ _ _ h => h) (Or.inl ⟨by rfl, ?_⟩) (by assumption) ?_
                rotate_left
                · (intro w hSw; (try dsimp only at hSw); go_simp; try with_reducible rfl)
                try simp only [Act.put, List.getElem_toArray, List.getElem_cons_succ, List.getElem_cons_zero, List.setIfInBounds_toArray, List.set_cons_zero, List.set_cons_succ]
                refine wpAnyH_ready (rs := [6, 8]) (by kernel_rfl) (by simp) ?_
                refine (AllReadyH.cons rfl (fun K hK => ?_) (AllReadyH.cons rfl (fun K hK => ?_) AllReadyH.nil))
                · try simp only [List.getElem_toArray, List.getElem_cons_succ, List.getElem_cons_zero]
                  go_simp
                  (go_at_call 6; (with_reducible refine (HCN.out _).mono ?_); rintro e w4 ⟨rfl, h1, hT4, h3⟩)
                  have hTA := HTD.out.trans hT4 (by simp)
                  try go_wp2_with fail
                  refine hK.out _ _ (hTA.mono (by simp)) (fun hHeld1 => ?_)
                  clear hK K
                  try simp only [Act.put, List.getElem_toArray, List.getElem_cons_succ, List.getElem_cons_zero, List.setIfInBounds_toArray, List.set_cons_zero, List.set_cons_succ]
                  refine wpAnyH_ready (rs := [8]) (by kernel_rfl) (by simp) ?_
                  refine AllReadyH.cons rfl (fun K hK => ?_) AllReadyH.nil
                  try simp only [List.getElem_toArray, List.getElem_cons_succ, List.getElem_cons_zero]
                  go_simp
                  have hTB := hTA.alloc (.cells N24 41)
                  obtain ⟨y0, y1, y2, y3⟩ := HLC.out _ hTB
                  have y30 := y3 (i * 3)
                  have y31 := y3 (i * 3 + 1)
                  have y32 := y3 (i * 3 + 2)
                  refine hK.out _ _ (hTB.mono (by simp)) (fun hHeld2 => ?_)
                  clear hK K
                  try simp only [Act.put, List.getElem_toArray, List.getElem_cons_succ, List.getElem_cons_zero, List.setIfInBounds_toArray, List.set_cons_zero, List.set_cons_succ]
                  refine wpAnyH_take (i := 12) (v := ?_) rfl (by kernel_rfl) (by kernel_rfl) (by kernel_rfl) (fun _ _ _ h => h) (Or.inl ⟨by rfl, ?_⟩) (by assumption) ?_
                  rotate_left
                  · (intro w hSw; (try dsimp only at hSw); go_simp; try with_reducible rfl)
                  try simp only [Act.put, List.getElem_toArray, List.getElem_cons_succ, List.getElem_cons_zero, List.setIfInBounds_toArray, List.set_cons_zero, List.set_cons_succ]
                  refine wpAnyH_take (i := 13) (v := ?_) rfl (by kernel_rfl) (by kernel_rfl) (by kernel_rfl) (fun _ _ _ h => h) (Or.inl ⟨by rfl, ?_⟩) (by assumption) ?_
                  rotate_left
                  · (intro w hSw; (try dsimp only at hSw); go_simp; try with_reducible rfl)
                  try simp only [Act.put, List.getElem_toArray, List.getElem_cons_succ, List.getElem_cons_zero, List.setIfInBounds_toArray, List.set_cons_zero, List.set_cons_succ]
                  refine wpAnyH_ready (rs := [14]) (by kernel_rfl) (by simp) ?_
                  refine AllReadyH.cons rfl (fun K hK => ?_) AllReadyH.nil
                  try simp only [List.getElem_toArray, List.getElem_cons_succ, List.getElem_cons_zero]
                  go_simp
                  refine hK.out _ _ ((((hTB.mono (by simp)).setCell (p := ⟨lb, i * 3, none⟩) (.inl (by simp)) _).setCell (p := ⟨lb, i * 3 + 1, none⟩) (.inl (by simp)) _).setCell (p := ⟨lb, i * 3 + 2, none⟩) (.inl (by simp)) _) (fun hHeld3 => ?_)
                  clear hK K
                  try simp only [Act.put, List.getElem_toArray, List.getElem_cons_succ, List.getElem_cons_zero, List.setIfInBounds_toArray, List.set_cons_zero, List.set_cons_succ]
                  refine wpAnyH_done (by kernel_rfl) ?_ _
                  go_wp2_with fail
                  refine ⟨⟨j + 1, by have := HJ.out.1; omega, by simp, ?_⟩, by have := HJ.out.1; simp [intOf]; omega⟩
                  have h3' : wc.heap.size < w4.heap.size := h3
                  have hs4 : (w4.alloc (.cells N24 41)).heap.size = w4.heap.size + 1 := World.size_alloc _ _
                  have ha := play_anew HPW.out HJ.out.2.1 HN24.out (r := wc.heap.size) (e := w4.heap.size) hTB ⟨Nat.le_refl _, by rw [hs4]; omega⟩ ⟨by omega, by rw [hs4]; omega⟩ (ClAt.turn h1 ((Frm.Turn.refl [] w4).alloc _) (by simp)) (World.alloc_heap_new w4 _)
                  rw [HCTI.out] at ha
                  exact ha.le (by have := HK2.out; have := HJ.out.2.2; omega)
                · try simp only [List.getElem_toArray, List.getElem_cons_succ, List.getElem_cons_zero]
                  go_simp
                  have hTA := HTD.out.alloc (.cells N24 41)
                  refine hK.out _ _ (hTA.mono (by simp)) (fun hHeld1 => ?_)
                  clear hK K
                  try simp only [Act.put, List.getElem_toArray, List.getElem_cons_succ, List.getElem_cons_zero, List.setIfInBounds_toArray, List.set_cons_zero, List.set_cons_succ]
                  refine wpAnyH_ready (rs := [6]) (by kernel_rfl) (by simp) ?_
                  refine AllReadyH.cons rfl (fun K hK => ?_) AllReadyH.nil
                  try simp only [List.getElem_toArray, List.getElem_cons_succ, List.getElem_cons_zero]
                  go_simp
                  (go_at_call 6; (with_reducible refine (HCN.out _).mono ?_); rintro e w4 ⟨rfl, h1, hT4, h3⟩)
                  have hTB := hTA.trans hT4 (by simp)
                  obtain ⟨y0, y1, y2, y3⟩ := HLC.out _ hTB
                  have y30 := y3 (i * 3)
                  have y31 := y3 (i * 3 + 1)
                  have y32 := y3 (i * 3 + 2)
                  try go_wp2_with fail
                  refine hK.out _ _ (hTB.mono (by simp)) (fun hHeld2 => ?_)
                  clear hK K
                  try simp only [Act.put, List.getElem_toArray, List.getElem_cons_succ, List.getElem_cons_zero, List.setIfInBounds_toArray, List.set_cons_zero, List.set_cons_succ]
                  refine wpAnyH_take (i := 12) (v := ?_) rfl (by kernel_rfl) (by kernel_rfl) (by kernel_rfl) (fun _ _ _ h => h) (Or.inl ⟨by rfl, ?_⟩) (by assumption) ?_
                  rotate_left
                  · (intro w hSw; (try dsimp only at hSw); go_simp; try with_reducible rfl)
                  try simp only [Act.put, List.getElem_toArray, List.getElem_cons_succ, List.getElem_cons_zero, List.setIfInBounds_toArray, List.set_cons_zero, List.set_cons_succ]
                  refine wpAnyH_take (i := 13) (v := ?_) rfl (by kernel_rfl) (by kernel_rfl) (by kernel_rfl) (fun _ _ _ h => h) (Or.inl ⟨by rfl, ?_⟩) (by assumption) ?_
                  rotate_left
                  · (intro w hSw; (try dsimp only at hSw); go_simp; try with_reducible rfl)
                  try simp only [Act.put, List.getElem_toArray, List.getElem_cons_succ, List.getElem_cons_zero, List.setIfInBounds_toArray, List.set_cons_zero, List.set_cons_succ]
                  refine wpAnyH_ready (rs := [14]) (by kernel_rfl) (by simp) ?_
                  refine AllReadyH.cons rfl (fun K hK => ?_) AllReadyH.nil
                  try simp only [List.getElem_toArray, List.getElem_cons_succ, List.getElem_cons_zero]
                  go_simp
                  refine hK.out _ _ ((((hTB.mono (by simp)).setCell (p := ⟨lb, i * 3, none⟩) (.inl (by simp)) _).setCell (p := ⟨lb, i * 3 + 1, none⟩) (.inl (by simp)) _).setCell (p := ⟨lb, i * 3 + 2, none⟩) (.inl (by simp)) _) (fun hHeld3 => ?_)
                  clear hK K
                  try simp only [Act.put, List.getElem_toArray, List.getElem_cons_succ, List.getElem_cons_zero, List.setIfInBounds_toArray, List.set_cons_zero, List.set_cons_succ]
                  refine wpAnyH_done (by kernel_rfl) ?_ _
                  go_wp2_with fail
                  refine ⟨⟨j + 1, by have := HJ.out.1; omega, by simp, ?_⟩, by have := HJ.out.1; simp [intOf]; omega⟩
                  have hs : ((wc.alloc (.cells N24 41)).drew).heap.size = wc.heap.size + 1 := World.size_alloc wc _
                  have h3' : wc.heap.size + 1 < w4.heap.size := by rw [← hs]; exact h3
                  have ha := play_anew HPW.out HJ.out.2.1 HN24.out (r := wc.heap.size + 1) (e := wc.heap.size) hTB ⟨by omega, h3'⟩ ⟨Nat.le_refl _, by omega⟩ (by rw [← hs]; exact h1) (hT4.keep (World.alloc_heap_new wc _) (by simp))
                  rw [HCTI.out] at ha
                  exact ha.le (by have := HK2.out; have := HJ.out.2.2; omega)
            | false =>
              have hst : (c i).st ≠ 0 := by have h := HD.out; intro e; rw [decide_eq_true e] at h; cases h
              have HKB : Hid (k ≤ 2 * j ∧ j < m ∧ m ≤ 600) := Lib.hid ⟨HJ.out.2.2, HJ.out.1, HM.out⟩
              have HST := Lib.hid (HP1.out.step HJ.out.2.1 (by have := HKB.out; omega))
              have HS0 := Lib.hid hst
              have HXR : Hid (xb ≠ rr i ∧ xb ≠ ee i ∧ xb ≠ mb) := Lib.hid ⟨heap_ne HX1.out (HP1.out.cl i HJ.out.2.1) (by decide), heap_ne HX1.out (HP1.out.en i HJ.out.2.1).row (by decide), heap_ne HX1.out HP1.out.mown (by decide)⟩
              have HXC : Hid (∀ W : World, W.heap[xb]? = some (.cells #[.pointer (some ⟨rr i, 0, none⟩), .pointer (some ⟨ee i, 0, none⟩), .int .i64 cti] 43) → W.cell? ⟨xb, 0, none⟩ = some (.pointer (some ⟨rr i, 0, none⟩)) ∧ W.cell? ⟨xb, 1, none⟩ = some (.pointer (some ⟨ee i, 0, none⟩))) := Lib.hid fun W h =>
                ⟨(Frm.cell_row _ _ 0 _ _ _ h).trans rfl, (Frm.cell_row _ _ 1 _ _ _ h).trans rfl⟩
              obtain ⟨x10, x11⟩ := HXC.out _ HX1.out
              have HCZ := Lib.hid HP1.out.size.1
              clear l0 l1 l2 hst
              go_upto_region 27 with (first
                | (go_at_call 12; go_must (with_reducible refine (HST.out).mono ?_); rintro e w2 ⟨rfl, hP, hB⟩; have HP2 := Lib.hid hP; have HX2 := Lib.hid (hB.heap (k := xb) (by simp) HXR.out.1 HX1.out); obtain ⟨x20, x21⟩ := HXC.out _ HX2.out; have HM2 := Lib.hid hP.mown; have HBG := Lib.hid (hP.begin_ HJ.out.2.1); have HGO := Lib.hid (HP1.out.goes HJ.out.2.1 (by have := HKB.out; omega) (hP.lim (by have := HKB.out; omega))); clear hP hB)
                | (refine wpList_load_row rfl 34 (.tmp 9) rfl mb rfl 34 CS (0, 0) (.struct fs) HM2.out HFS.out rfl (by rw [HCZ.out]; exact info_refA) ?_)
                | (go_at_call 13; go_must (with_reducible refine (HBG.out).mono ?_); rintro e w3 ⟨rfl, hT, K3, CE3, lv3, G3, hK3, hP⟩; have HX3 := Lib.hid (hT.keep HX2.out (by simpa using HXR.out.2.1)); obtain ⟨x30, x31⟩ := HXC.out _ HX3.out; have HRN := Lib.hid (hP.run HJ.out.2.1 HGO.out (by rw [upd_at]; exact plc_begin (E i) A _ _) (by have := HP1.out.len i HJ.out.2.1; omega)); have HK3 := Lib.hid hK3; clear hT hP hK3)
                | (go_at_call 14; go_must (with_reducible refine (HRN.out).mono ?_); rintro e w4 ⟨jj, sg, s, own, ld, er, rfl, hok, hT, K4, CE4, lv4, G4, hK4, hP⟩; have HX4 := Lib.hid (hT.keep HX3.out (by simpa using HXR.out.2.1)); have HRD := Lib.hid (HP1.out.round HJ.out.2.1 HS0.out hP hok (by have := HKB.out; omega)); unfold gotAll; clear hT hP hok hK4))
              have hbun : ∃ (E5 : Nat → En) (c5 : Nat → Cl) (A5 : Ar) (K5 : List Nat), Play w b mb cnt (.slice (some ⟨lb, 0, none⟩) cnt vc) rr ee ct K5 CS Gm A5 A (k + 1) 8 c5 E5 CE4 lv4 G4 (w4.alloc (.cells #[.int .u64 sg, .int .i64 s, .bool own, .int .u64 ld, .int .i64 er] 56)) ∧ (E5 i).A = A5 ∧ GotOk (c5 i) sg s own ld er (E5 i).stop ∧ (c5 i).Way ((i : Int) + 1) := by
                obtain ⟨a1, a2, a3, a4⟩ := HRD.out
                refine ⟨_, _, _, _, a4.box _, ?_, ?_, ?_⟩
                · rw [upd_at]; exact a1
                · rw [upd_at, upd_at]; exact a2
                · rw [upd_at]; exact a3
              have HX5 := Lib.hid (((Frm.Turn.refl [] w4).alloc (.cells #[.int .u64 sg, .int .i64 s, .bool own, .int .u64 ld, .int .i64 er] 56)).keep HX4.out (by simp))
              have HG5 := Lib.hid (World.alloc_heap_new w4 (.cells #[.int .u64 sg, .int .i64 s, .bool own, .int .u64 ld, .int .i64 er] 56))
              clear HRD HX4 HRN HX3 HGO HBG HM2 HX2 HP2 HST HP1 HX1 HK3 x10 x11 x20 x21 x30 x31 HS0
              generalize w4.heap.size = gb at HG5 ⊢
              generalize w4.alloc (.cells #[.int .u64 sg, .int .i64 s, .bool own, .int .u64 ld, .int .i64 er] 56) = w5 at hbun HX5 HG5 ⊢
              obtain ⟨E5, c5, A5, K5, P5, hA5, hgo, hway⟩ := hbun
              have HP5 := Lib.hid P5
              have HE5 := Lib.hid (P5.en i HJ.out.2.1)
              have HM5 := Lib.hid P5.mown
              obtain ⟨x50, x51⟩ := HXC.out _ HX5.out
              have HAG := Lib.hid (And.intro hA5 (And.intro hgo hway))
              clear P5 hA5 hgo hway
              go_upto_region 28 with (first
                | (refine wpList_load_mid rfl 34 (.tmp 127) rfl (ee i) 0 rfl (CE4 i).toList (.struct fs) HE5.out.range HFS.out rfl (by rw [Array.length_toList, HE5.out.size]; exact info_refA) ?_; rw [Array.toArray_toList])
                | (refine wpList_store_row rfl 34 (.tmp 9) (.tmp 128) rfl mb (CE4 i) rfl rfl 34 CS HM5.out (by rw [HE5.out.size]; exact info_refA) (by rw [HE5.out.size, HCZ.out]) HE5.out.one ?_))
              have hT6 : Frm.Turn [mb] w5 (w5.setRow mb (CE4 i)) := setRow_turn (Frm.Turn.refl _ w5) (.inl (by simp)) _
              have HX6 := Lib.hid (hT6.keep HX5.out (by simpa using HXR.out.2.2))
              have HG6 := Lib.hid (hT6.keep HG5.out (by have h := heap_ne HG5.out HM5.out (by decide); simpa using h))
              obtain ⟨K6, _, P6⟩ := HP5.out.take HJ.out.2.1
              rw [HAG.out.1] at P6
              obtain ⟨ce, hce⟩ : ∃ x, x = CE4 i := ⟨_, rfl⟩
              rw [← hce] at P6 hT6 HX6 HG6 ⊢
              generalize w5.setRow mb ce = w6 at P6 HX6 HG6 ⊢
              obtain ⟨sp, hsp⟩ : ∃ x, x = (E5 i).stop := ⟨_, rfl⟩
              have h23 := (P6.en i HJ.out.2.1).cells.2.2.2
              rw [← hsp] at h23
              have HSM : Hid (∀ W', Frm.Turn [] w6 W' → Calls Tryz.prog 15 #[.pointer (some ⟨rr i, 0, none⟩), .agg #[.int .u64 sg, .int .i64 s, .bool own, .int .u64 ld, .int .i64 er], .bool sp] W' fun e w' => e = .returned (.bool true) ∧ Frm.Turn [] W' w') :=
                Lib.hid fun W' hT => same_any ((P6.cl i HJ.out.2.1).turn hT (by simp)) HAG.out.2.2 (by rw [hsp]; exact HAG.out.2.1)
              have HSA := Lib.hid (fun W' (hT : Frm.Turn [] w6 W') => (P6.still hT).same)
              have HPL := Lib.hid (fun W' (hT : Frm.Turn [] w6 W') => P6.still hT)
              have HM6 := Lib.hid P6.mown
              have HCE := Lib.hid P6.size.1
              have HC6 : Hid (∀ W', Frm.Turn [] w6 W' → W'.cell? ⟨xb, 0, none⟩ = some (.pointer (some ⟨rr i, 0, none⟩)) ∧ W'.cell? ⟨xb, 1, none⟩ = some (.pointer (some ⟨ee i, 0, none⟩)) ∧ W'.cell? ⟨ee i, 23, none⟩ = some (.bool sp) ∧
                  W'.cell? ⟨gb, 0, none⟩ = some (.int .u64 sg) ∧ W'.cell? ⟨gb, 1, none⟩ = some (.int .i64 s) ∧ W'.cell? ⟨gb, 2, none⟩ = some (.bool own) ∧ W'.cell? ⟨gb, 3, none⟩ = some (.int .u64 ld) ∧ W'.cell? ⟨gb, 4, none⟩ = some (.int .i64 er)) := Lib.hid fun W' hT => by
                have hx := HXC.out _ (hT.keep HX6.out (by simp))
                have hg := hT.keep HG6.out (by simp)
                exact ⟨hx.1, hx.2, hT.cell h23 (by simp), (Frm.cell_row _ _ 0 _ _ _ hg).trans rfl, (Frm.cell_row _ _ 1 _ _ _ hg).trans rfl, (Frm.cell_row _ _ 2 _ _ _ hg).trans rfl, (Frm.cell_row _ _ 3 _ _ _ hg).trans rfl, (Frm.cell_row _ _ 4 _ _ _ hg).trans rfl⟩
              have HTD := Lib.hid (Frm.Turn.refl [] w6).drew
              clear P6 h23 hsp hT6 HX5 HG5 HP5 HE5 HM5 x50 x51 HAG hce HX6 HG6 HXC
              refine wp_region_held_drew (S := fun W' => Frm.Turn [] w6 W') (by kernel_rfl) ?_ (fun hHeld => ?_)
              · exact HTD.out
              refine wpAnyH_take (i := 0) (v := ?_) rfl (by kernel_rfl) (by kernel_rfl) (by kernel_rfl) (fun _ _ _ h => h) (Or.inl ⟨by rfl, ?_⟩) (by assumption) ?_
              rotate_left
              · (intro w hSw; (try dsimp only at hSw); go_simp; try with_reducible rfl)
              try simp only [Act.put, List.getElem_toArray, List.getElem_cons_succ, List.getElem_cons_zero, List.setIfInBounds_toArray, List.set_cons_zero, List.set_cons_succ]
              refine wpAnyH_take (i := 1) (v := ?_) rfl (by kernel_rfl) (by kernel_rfl) (by kernel_rfl) (fun _ _ _ h => h) (Or.inl ⟨by rfl, ?_⟩) (by assumption) ?_
              rotate_left
              · (intro w hSw; (try dsimp only at hSw); have x := (HC6.out w hSw).1; go_simp; try with_reducible rfl)
              try simp only [Act.put, List.getElem_toArray, List.getElem_cons_succ, List.getElem_cons_zero, List.setIfInBounds_toArray, List.set_cons_zero, List.set_cons_succ]
              refine wpAnyH_take (i := 2) (v := ?_) rfl (by kernel_rfl) (by kernel_rfl) (by kernel_rfl) (fun _ _ _ h => h) (Or.inl ⟨by rfl, ?_⟩) (by assumption) ?_
              rotate_left
              · (intro w hSw; (try dsimp only at hSw); obtain ⟨_, _, _, y0, y1, y2, y3, y4⟩ := HC6.out w hSw; go_simp; try with_reducible rfl)
              try simp only [Act.put, List.getElem_toArray, List.getElem_cons_succ, List.getElem_cons_zero, List.setIfInBounds_toArray, List.set_cons_zero, List.set_cons_succ]
              refine wpAnyH_take (i := 3) (v := ?_) rfl (by kernel_rfl) (by kernel_rfl) (by kernel_rfl) (fun _ _ _ h => h) (Or.inl ⟨by rfl, ?_⟩) (by assumption) ?_
              rotate_left
              · (intro w hSw; (try dsimp only at hSw); go_simp; try with_reducible rfl)
              try simp only [Act.put, List.getElem_toArray, List.getElem_cons_succ, List.getElem_cons_zero, List.setIfInBounds_toArray, List.set_cons_zero, List.set_cons_succ]
              refine wpAnyH_take (i := 4) (v := ?_) rfl (by kernel_rfl) (by kernel_rfl) (by kernel_rfl) (fun _ _ _ h => h) (Or.inl ⟨by rfl, ?_⟩) (by assumption) ?_
              rotate_left
              · (intro w hSw; (try dsimp only at hSw); have x := (HC6.out w hSw).2.1; go_simp; try with_reducible rfl)
              try simp only [Act.put, List.getElem_toArray, List.getElem_cons_succ, List.getElem_cons_zero, List.setIfInBounds_toArray, List.set_cons_zero, List.set_cons_succ]
              refine wpAnyH_take (i := 5) (v := ?_) rfl (by kernel_rfl) (by kernel_rfl) (by kernel_rfl) (fun _ _ _ h => h) (Or.inl ⟨by rfl, ?_⟩) (by assumption) ?_
              rotate_left
              · (intro w hSw; (try dsimp only at hSw); go_simp; try with_reducible rfl)
              try simp only [Act.put, List.getElem_toArray, List.getElem_cons_succ, List.getElem_cons_zero, List.setIfInBounds_toArray, List.set_cons_zero, List.set_cons_succ]
              refine wpAnyH_take (i := 6) (v := ?_) rfl (by kernel_rfl) (by kernel_rfl) (by kernel_rfl) (fun _ _ _ h => h) (Or.inl ⟨by rfl, ?_⟩) (by assumption) ?_
              rotate_left
              · (intro w hSw; (try dsimp only at hSw); go_simp; try with_reducible rfl)
              try simp only [Act.put, List.getElem_toArray, List.getElem_cons_succ, List.getElem_cons_zero, List.setIfInBounds_toArray, List.set_cons_zero, List.set_cons_succ]
              refine wpAnyH_take (i := 7) (v := ?_) rfl (by kernel_rfl) (by kernel_rfl) (by kernel_rfl) (fun _ _ _ h => h) (Or.inl ⟨by rfl, ?_⟩) (by assumption) ?_
              rotate_left
              · (intro w hSw; (try dsimp only at hSw); have x := (HC6.out w hSw).2.2.1; go_simp; try with_reducible rfl)
              try simp only [Act.put, List.getElem_toArray, List.getElem_cons_succ, List.getElem_cons_zero, List.setIfInBounds_toArray, List.set_cons_zero, List.set_cons_succ]
              refine wpAnyH_ready (rs := [8]) (by kernel_rfl) (by simp) ?_
              refine AllReadyH.cons rfl (fun K hK => ?_) AllReadyH.nil
              try simp only [List.getElem_toArray, List.getElem_cons_succ, List.getElem_cons_zero]
              go_simp
              (go_at_call 15; (with_reducible refine (HSM.out _ hHeld).mono ?_); rintro e w7 ⟨rfl, hT7⟩)
              try go_wp2_with fail
              refine hK.out _ _ (hHeld.trans hT7 (by simp)) (fun hHeld1 => ?_)
              clear hK K
              try simp only [Act.put, List.getElem_toArray, List.getElem_cons_succ, List.getElem_cons_zero, List.setIfInBounds_toArray, List.set_cons_zero, List.set_cons_succ]
              refine wpAnyH_take (i := 9) (v := ?_) rfl (by kernel_rfl) (by kernel_rfl) (by kernel_rfl) (fun _ _ _ h => h) (Or.inl ⟨by rfl, ?_⟩) (by assumption) ?_
              rotate_left
              · (intro w hSw; (try dsimp only at hSw); go_simp; try with_reducible rfl)
              try simp only [Act.put, List.getElem_toArray, List.getElem_cons_succ, List.getElem_cons_zero, List.setIfInBounds_toArray, List.set_cons_zero, List.set_cons_succ]
              refine wpAnyH_take (i := 10) (v := ?_) rfl (by kernel_rfl) (by kernel_rfl) (by kernel_rfl) (fun _ _ _ h => h) (Or.inl ⟨by rfl, ?_⟩) (by assumption) ?_
              rotate_left
              · (intro w hSw; (try dsimp only at hSw); go_simp; try with_reducible rfl)
              try simp only [Act.put, List.getElem_toArray, List.getElem_cons_succ, List.getElem_cons_zero, List.setIfInBounds_toArray, List.set_cons_zero, List.set_cons_succ]
              refine wpAnyH_take (i := 11) (v := ?_) rfl (by kernel_rfl) (by kernel_rfl) (by kernel_rfl) (fun _ _ _ h => h) (Or.inl ⟨by rfl, ?_⟩) (by assumption) ?_
              rotate_left
              · (intro w hSw; (try dsimp only at hSw); go_simp; try with_reducible rfl)
              try simp only [Act.put, List.getElem_toArray, List.getElem_cons_succ, List.getElem_cons_zero, List.setIfInBounds_toArray, List.set_cons_zero, List.set_cons_succ]
              refine wpAnyH_ready (rs := [12]) (by kernel_rfl) (by simp) ?_
              refine (AllReadyH.cons rfl (fun K hK => ?_) AllReadyH.nil)
              · try simp only [List.getElem_toArray, List.getElem_cons_succ, List.getElem_cons_zero]
                rw [if_pos (by rfl)]
                refine wp_load_row 34 (.tmp 9) (by rfl) mb (by rfl) 34 ce (0, 0) (.struct fs) (hHeld1.keep HM6.out (by simp)) HFS.out rfl (by rw [HCE.out]; exact info_refA) ?_
                refine hK.out _ _ (hHeld1) (fun hHeld2 => ?_)
                clear hK K
                try simp only [Act.put, List.getElem_toArray, List.getElem_cons_succ, List.getElem_cons_zero, List.setIfInBounds_toArray, List.set_cons_zero, List.set_cons_succ]
                refine wpAnyH_ready (rs := [13]) (by kernel_rfl) (by simp) ?_
                refine AllReadyH.cons rfl (fun K hK => ?_) AllReadyH.nil
                try simp only [List.getElem_toArray, List.getElem_cons_succ, List.getElem_cons_zero]
                go_simp
                (go_at_call 16; (with_reducible refine (HSA.out _ hHeld2).mono ?_); rintro e w8 ⟨rfl, hT8⟩)
                try go_wp2_with fail
                refine hK.out _ _ (hHeld2.trans hT8 (by simp)) (fun hHeld3 => ?_)
                clear hK K
                try simp only [Act.put, List.getElem_toArray, List.getElem_cons_succ, List.getElem_cons_zero, List.setIfInBounds_toArray, List.set_cons_zero, List.set_cons_succ]
                refine wpAnyH_take (i := 14) (v := ?_) rfl (by kernel_rfl) (by kernel_rfl) (by kernel_rfl) (fun _ _ _ h => h) (Or.inl ⟨by rfl, ?_⟩) (by assumption) ?_
                rotate_left
                · (intro w hSw; (try dsimp only at hSw); go_simp; try with_reducible rfl)
                try simp only [Act.put, List.getElem_toArray, List.getElem_cons_succ, List.getElem_cons_zero, List.setIfInBounds_toArray, List.set_cons_zero, List.set_cons_succ]
                refine wpAnyH_take (i := 15) (v := ?_) rfl (by kernel_rfl) (by kernel_rfl) (by kernel_rfl) (fun _ _ _ h => h) (Or.inl ⟨by rfl, ?_⟩) (by assumption) ?_
                rotate_left
                · (intro w hSw; (try dsimp only at hSw); go_simp; try with_reducible rfl)
                try simp only [Act.put, List.getElem_toArray, List.getElem_cons_succ, List.getElem_cons_zero, List.setIfInBounds_toArray, List.set_cons_zero, List.set_cons_succ]
                refine wpAnyH_done (by kernel_rfl) ?_ _
                go_wp2_with fail
                refine ⟨⟨j + 1, by have := HKB.out; omega, by simp, ?_⟩, by have := HKB.out; simp [intOf]; omega⟩
                exact ⟨_, _, _, _, _, _, _, _, _, _, _, _, _, HPL.out _ hHeld3, by have := HKB.out; omega⟩
          · obtain rfl : j = m := by omega
            have HT := Lib.hid P.kin.turn
            have hlt' : ¬ (j : Int) < (j : Int) := by omega
            clear P hk hlt hj HB2 HZ2
            go_wp2_with (first
              | (go_at_call 12; (with_reducible refine (step_nil _).mono ?_); rintro e w2 ⟨rfl, hT⟩; have HT2 := Lib.hid (HT.out.trans hT (by simp)); clear hT)
              | (go_at_call 8; (with_reducible refine (place_nil _).mono ?_); rintro e w3 ⟨rfl, hT⟩; have HT3 := Lib.hid ((HT2.out.trans hT (by simp)).alloc (.cells #[.int .u64 0, .int .i64 0] 45)); clear hT)
              | (go_at_call 7; (with_reducible refine (done_nil _).mono ?_); rintro e w4 ⟨rfl, rfl⟩)
              | (go_at_call 17; (with_reducible refine (err_nil _).mono ?_); rintro e w5 ⟨rfl, rfl⟩)
              | (go_at_call 18; (with_reducible refine (private_nil _).mono ?_); rintro e w6 ⟨rfl, rfl⟩))
            go_ret
            exact ⟨rfl, HT3.out⟩
end Evn
end Go.Proofs.YtolcpfidmpoipaaGreat
