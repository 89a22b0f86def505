/- The walk of ArenaOnce. -/
import Derived.Test.YtgcignlpinbhnaaArenaOncePlain
set_option linter.unusedVariables false
set_option linter.unusedSimpArgs false
namespace Go.Proofs.Ytgcignlpinbhnaa
namespace Arn
open Go.RowKit Hp Go.Maps

theorem once_next {w w7 w8 : World} {b m c len k n : Nat} {M7 : Mem} {A A' : Ar} {D : DataW Unit} {hh z : Int} (hs : Sin w b M7 A' (20 * k + 1) w7) (ho : OwnI w8 m (n + 1) (D.put (.int .u64 hh) (.lit (.int .i64 z)))) (hg : w7.grownBy w8 (some m))
    (hm : m ∉ M7.foot b ∧ m < w7.heap.size) (hy : n ≤ k ∧ w.heap.size ≤ m ∧ A.cap = c) (hx : A'.cap = A.cap ∧ (hh = 0 ∨ hh / 65536 ≤ (A'.births : Int)) ∧ A.births ≤ A'.births) (hD : ∀ x : Int, Maps.has D (.int .u64 x) = true → x = 0 ∨ x / 65536 ≤ (A.births : Int)) : OnceRel w b m c len (k + 1) w8 := by
  have T := Frm.Turn.of_grown hg
  refine ⟨M7, A', n + 1, _, (hs.apart T (fun q hq hq' => by simp at hq'; subst hq'; exact hm.1 hq) (fun q hq => by simp at hq; subst hq; exact hy.2.1)).more (by omega), ho, by omega, hm.1, hy.2.1, Nat.lt_of_lt_of_le hm.2 T.size, by rw [hx.1, hy.2.2], fun x hxx => ?_⟩
  by_cases e : x = hh
  · rw [e]; exact hx.2.1
  · rw [has_put_other (by simpa using e)] at hxx
    rcases hD x hxx with h | h
    · exact .inl h
    · right; have := hx.2.2; omega
theorem once_same {w wc w7 : World} {b m c len k n : Nat} {M : Mem} {A A' : Ar} {D : DataW Unit} {j : Nat} (ha : After w b M A' j wc w7) (ho : OwnI wc m n D) (hn : n ≤ k ∧ m ∉ M.foot b ∧ w.heap.size ≤ m ∧ m < wc.heap.size ∧ A.cap = c ∧ ∀ x : Int, Maps.has D (.int .u64 x) = true → x = 0 ∨ x / 65536 ≤ (A.births : Int))
    (hc : A'.cap = A.cap) (hb : A'.births = A.births) (hj : j ≤ 20 * (k + 1) := by omega) : OnceRel w b m c len (k + 1) w7 := by
  obtain ⟨M', hs, hT, hf⟩ := ha
  obtain ⟨h1, h2, h3, h4, h5, h6⟩ := hn
  exact ⟨M', A', n, D, hs.more hj, Lst.own_turn ho hT h2, by omega, fun hk => (hf m hk).elim h2 (fun e => by omega), h3, Nat.lt_of_lt_of_le h4 hT.size, by rw [hc, h5], fun x hx => by rw [hb]; exact h6 x hx⟩

/-- Free has served; what the copy is made of. -/
def Freed (w : World) (b m n Bo : Nat) (A1 : Ar) (D : DataW Unit) (y : OpV) (j : Nat) (w7 : World) : Prop :=
  ∃ M7, Sin w b M7 A1 j w7 ∧ OwnI w7 m n D ∧ m ∉ M7.foot b ∧ BoxOp w7 Bo y ∧ Bo ∉ M7.foot b
theorem once_clone {w wc : World} {b m n Bo j k c : Nat} {M : Mem} {A : Ar} {D : DataW Unit} {y : OpV} (hf : Calls Try.prog 13 #[.pointer (some ⟨b, 0, none⟩), .int .u64 y.h] wc fun e w' => e = .returned (.int .i64 (A.free y.h).2) ∧ After w b M (A.free y.h).1 j wc w')
    (ho : OwnI wc m n D) (hn : n ≤ k ∧ m ∉ M.foot b ∧ w.heap.size ≤ m ∧ m < wc.heap.size ∧ A.cap = c ∧ ∀ x : Int, Maps.has D (.int .u64 x) = true → x = 0 ∨ x / 65536 ≤ (A.births : Int)) (hB : BoxOp wc Bo y) (hBf : Bo ∉ M.foot b) (hy : y.Ok) (hok : A.Ok) (hfr : hasH A.L y.h = true) :
    ∃ A1 : Ar, (Calls Try.prog 13 #[.pointer (some ⟨b, 0, none⟩), .int .u64 y.h] wc fun e w' => e = .returned (.int .i64 0) ∧ Freed w b m n Bo A1 D y j w') ∧
      (∀ w7, Freed w b m n Bo A1 D y j w7 → Calls Try.prog 24 #[.pointer (some ⟨b, 0, none⟩)] w7 fun e w8 => ∃ nb Mb, e = .returned (.pointer (some ⟨nb, 0, none⟩)) ∧ Gone w b nb m n Bo Mb A1 D y j w8) ∧
      (n ≤ k ∧ w.heap.size ≤ m ∧ A1.cap = c ∧ ∀ x : Int, Maps.has D (.int .u64 x) = true → x = 0 ∨ x / 65536 ≤ (A1.births : Int)) := by
  obtain ⟨h1, h2, h3, h4, h5, h6⟩ := hn
  have e0 : (A.free y.h).2 = 0 := by unfold Ar.free; rw [hfr]; rfl
  have hbl : Bo < wc.heap.size := (Array.getElem?_eq_some_iff.1 hB).1
  refine ⟨(A.free y.h).1, hf.mono ?_, fun w7 hp => ?_, h1, h3, by rw [free_cap]; exact h5, fun x hx => by rw [free_births]; exact h6 x hx⟩
  · rintro e w' ⟨rfl, M7, hs, hT, hff⟩
    exact ⟨by rw [e0], M7, hs, Lst.own_turn ho hT h2, fun hk => (hff m hk).elim h2 (fun e => by omega), hB.turn hT hBf, fun hk => (hff Bo hk).elim hBf (fun e => by omega)⟩
  · obtain ⟨M7, hs, ho7, hm7, hB7, hBf7⟩ := hp
    refine (aclone_any hs.at_).mono ?_
    rintro e w8 ⟨nb, Mb, rfl, hat, hnew, hT⟩
    have hne : y.h ≠ 0 := by
      obtain ⟨x, hx, hxe⟩ := hasH_iff.1 hfr
      have := (hok.hnd x hx).2.1
      omega
    exact ⟨nb, Mb, rfl, ⟨M7, _, hs.step hT, fun q hq hq' => by have := hnew q hq; have := hs.lt hq'; omega, rfl, rfl, rfl, rfl, hm7, hBf7⟩, hat, ⟨free_gone_after hfr, hne⟩, Lst.own_turn ho7 hT (by simp), hB7.turn hT (by simp), hy⟩
theorem once_gone {w wx : World} {b nb m n Bo j k c len : Nat} {Mb : Mem} {A1 : Ar} {D : DataW Unit} {y : OpV} (h : Gone w b nb m n Bo Mb A1 D y j wx) (hj : j ≤ 20 * (k + 1)) (hk : n ≤ k ∧ w.heap.size ≤ m ∧ A1.cap = c ∧ ∀ x : Int, Maps.has D (.int .u64 x) = true → x = 0 ∨ x / 65536 ≤ (A1.births : Int)) : OnceRel w b m c len (k + 1) wx := by
  obtain ⟨M2, A2, h1, h2, h3, h4, h5, h6, h7, h8⟩ := h.arena
  obtain ⟨k1, k2, k3, k4⟩ := hk
  exact ⟨M2, A2, n, D, h1.more hj, h.own, by omega, h7, k2, h.own.lt, by rw [h5, k3], fun x hx => by rw [h6]; exact k4 x hx⟩

set_option maxRecDepth 100000 in
set_option maxHeartbeats 4000000 in
theorem once_any (cap : Int) (a0 : Option Addr) (len lc : Nat) (w : World) (hops : 0 < len → ∃ bl off, a0 = some ⟨bl, off, none⟩ ∧ OpsAt w bl off len) (hlen : len ≤ 9223372036854775807) :
    Calls Try.prog 4 #[.int .i64 cap, .slice a0 len lc] w fun e w' => e = .returned (.bool true) ∧ Frm.Turn [] w w' := by
  have HF := Lib.hid (first_any w)
  have HG : Hid (∀ W, Frm.Turn [] w W → Calls Try.prog 7 #[.slice a0 len lc] W fun e w' => ∃ r : Bool, e = .returned (.bool r) ∧ (r = false → len ≤ 100) ∧ Frm.Turn [] w w') :=
    Lib.hid fun W hT => (great_any a0 len lc W (fun hp => (hops hp).elim fun bl h => h.elim fun off h => ⟨bl, off, h.1, h.2.step hT⟩) hlen).mono (by rintro e w' ⟨r, h1, h2, h3⟩; exact ⟨r, h1, h2, hT.trans h3 (by simp)⟩)
  have HO := Lib.hid hops
  clear hops
  by_cases hc : 0 ≤ cap ∧ cap ≤ 60000
  · obtain ⟨c, rfl⟩ : ∃ c : Nat, cap = (c : Int) := ⟨cap.toNat, by omega⟩
    have HN : Hid (∀ W, Frm.Turn [] w W → Calls Try.prog 8 #[.int .i64 (c : Int)] W fun e w' => ∃ b M, e = .returned (.tuple #[.pointer (some ⟨b, 0, none⟩), .int .i64 0]) ∧ Sin w b M (Ar.new c) 0 w') :=
      Lib.hid fun W hT => (sin_new c W (by omega)).mono (by rintro e w' ⟨b, M, h1, h2⟩; exact ⟨b, M, h1, ⟨h2.at_, fun k hk => Nat.le_trans hT.size (h2.new k hk), hT.trans h2.turn (by simp), h2.low, h2.born⟩⟩)
    have hmk := run_makeMap_n
    have hmm := @run_makeMap Try.prog
    go_enter Try.func4, Try.ntmps4
    go_wp2_with (first
      | (go_at_call 6; (with_reducible refine (HF.out).mono ?_); rintro e w1 ⟨rfl, hT⟩; have HT1 := Lib.hid hT; clear hT)
      | (go_at_call 7; (with_reducible refine (HG.out _ HT1.out).mono ?_); rintro e w2 ⟨r, rfl, hr, hT⟩; have HR := Lib.hid hr; have HT2 := Lib.hid hT; clear hT hr)
      | (go_at_call 8; (with_reducible refine (HN.out _ HT2.out).mono ?_); rintro e w3 ⟨b, M, rfl, hs⟩; have HS := Lib.hid hs; clear hs))
    · go_ret
      exact ⟨rfl, HT2.out⟩
    · have hl100 : len ≤ 100 := HR.out (by assumption)
      have h0 := HS.out.turn.size
      have hstart : OnceRel w b w3.heap.size c len 0 (w3.alloc (.map #[] 0)) :=
        ⟨M, Ar.new c, 0, .map [], HS.out.step ((Frm.Turn.refl [] w3).alloc _), World.ownsMap_made w3 Try.prog 29 (plainElem Try.prog 3), Nat.le_refl _, fun hk => by have := HS.out.lt hk; omega, h0, by simp, rfl, fun x hx => by cases hx⟩
      have HMM := Lib.hid (show w3.heap.size = w3.heap.size from rfl)
      generalize w3.heap.size = m at hstart HMM ⊢
      have hst := hstart
      clear hstart HS HT1 HT2 HR HF HG HN hmm h0
      go_loopw [35] (fun i wr => ∃ k : Nat, k ≤ len ∧ i = .int .i64 k ∧ OnceRel w b m c len k wr) (fun i _ => len - (intOf i).toNat)
      case atStart => exact ⟨0, Nat.zero_le _, rfl, hst⟩
      case round =>
        obtain ⟨k, hk, rfl, hrel⟩ := hrel
        have HREL := Lib.hid hrel
        clear hrel hst
        by_cases hlt : k < len
        · obtain ⟨bl, off, rfl, hopsA⟩ := HO.out (by omega)
          obtain ⟨x, hx⟩ := hopsA k hlt
          obtain ⟨M, A, n, D, hs, hown, hnk, hmf, hwm, hmw, hcap, hD⟩ := HREL.out
          have HX0 := Lib.hid hx
          have hx' := hx.step hs.turn
          have c0 := hx'.c0; have c1 := hx'.c1; have c2 := hx'.c2; have c3 := hx'.c3; have c4 := hx'.c4; have c5 := hx'.c5; have c6 := hx'.c6; have c7 := hx'.c7; have c8 := hx'.c8
          have HX := Lib.hid hx'
          have HS := Lib.hid hs
          have HOWN := Lib.hid hown
          have HP := Lib.hid (And.intro hnk (And.intro hmf (And.intro hwm (And.intro hmw (And.intro hcap hD)))))
          clear hx hx' hs hown hnk hmf hwm hmw hcap hD hopsA HREL
          go_wp2
          have HB := Lib.hid (BoxOp.new wr x)
          have HTW := Lib.hid ((Frm.Turn.refl [] wr).alloc (.cells #[.int .i64 x.k, .int .i64 x.a, .int .i64 x.o, .slice x.ao x.wn x.wc, .int .u64 x.h, .int .u64 x.xb, .int .i64 x.xa, .int .u64 x.n, .int .u64 x.m] 57))
          have HBN := Lib.hid (show wr.heap.size < (wr.alloc (.cells #[.int .i64 x.k, .int .i64 x.a, .int .i64 x.o, .slice x.ao x.wn x.wc, .int .u64 x.h, .int .u64 x.xb, .int .i64 x.xa, .int .u64 x.n, .int .u64 x.m] 57)).heap.size by simp)
          generalize wr.alloc (.cells #[.int .i64 x.k, .int .i64 x.a, .int .i64 x.o, .slice x.ao x.wn x.wc, .int .u64 x.h, .int .u64 x.xb, .int .i64 x.xa, .int .u64 x.n, .int .u64 x.m] 57) = W at HB HTW HBN ⊢
          generalize hBo : wr.heap.size = Bo at HB HBN ⊢
          have HBo := Lib.hid hBo
          clear hBo
          clear c0 c1 c2 c3 c4 c5 c6 c7 c8
          have HBl := Lib.hid (sin_of (HS.out.step (HTW.out.drew)))
          have HBW := Lib.hid (HB.out.cells)
          go_cut [40] (fun s40 W2 => ∃ y : OpV, Same4 x y ∧ BoxOp W2 Bo y ∧ Frm.Turn [] wr W2)
          case first =>
            rename_i J K' hRJ hMK
            have HMK := Lib.hid hMK
            have HRJ := Lib.hid hRJ
            clear hMK hRJ
            obtain ⟨c0, c1, c2, c3, c4, c5, c6, c7, c8⟩ := HBW.out
            go_region_with (first
              | (go_at_call 22; (with_reducible refine (HBl.out).mono ?_); rintro e w5 ⟨ao5, c5', ys, base5, rfl, hr5, hl5, h65, hT5⟩; have HOF := Lib.hid (of_flat x HX.out.ok ao5 c5' ys w5 hr5 hl5 h65); have HT5 := Lib.hid hT5; have HB5 := Lib.hid (BoxOp.turn HB.out (((Frm.Turn.refl [] W).drew).trans hT5 (by simp)) (by simp)); clear hr5 hl5 h65 hT5; obtain ⟨k0, k1, k2, k3, k4, k5, k6, k7, k8⟩ := HB5.out.cells)
              | (go_at_call 26; (with_reducible refine (HOF.out).mono ?_); rintro e w6 ⟨y, hy4, rfl, hT6⟩; have HY4 := Lib.hid hy4; have HT6 := Lib.hid hT6; have HB6 := Lib.hid (BoxOp.turn HB5.out hT6 (by simp)); clear hy4 hT6; obtain ⟨j0, j1, j2, j3, j4, j5, j6, j7, j8⟩ := HB6.out.cells; have l0 := HB6.out.thaw 0; have l1 := HB6.out.thaw 1; have l2 := HB6.out.thaw 2; have l3 := HB6.out.thaw 3; have l4 := HB6.out.thaw 4; have l5 := HB6.out.thaw 5; have l6 := HB6.out.thaw 6; have l7 := HB6.out.thaw 7; have l8 := HB6.out.thaw 8))
            all_goals dsimp only [Exit.then]
            all_goals refine HMK.out _ _ (Met.intro (HRJ.out _ _ ?_))
            all_goals (repeat apply Exists.intro)
            all_goals refine ⟨?_, rfl⟩
            all_goals exact ⟨y, HY4.out, (BoxOp.store HB6.out).1, (((HTW.out.drew).trans HT5.out (by simp)).trans HT6.out (by simp)).trans (BoxOp.store (y := y) HB6.out).2 (fun q hq => by simp at hq; have := HBo.out; omega)⟩
          case rest =>
            obtain ⟨y, hy4, hyB, hTy⟩ := hcut
            have HS2 := Lib.hid (HS.out.step hTy)
            have hown2 := Lst.own_turn HOWN.out hTy (by simp)
            obtain ⟨hnk, hmf, hwm, hmw, hcap, hD⟩ := HP.out
            have hmw2 := Nat.lt_of_lt_of_le hmw hTy.size
            obtain ⟨c0, c1, c2, c3, c4, c5, c6, c7, c8⟩ := hyB.cells
            by_cases hq : (IntKind.u64.wrap y.k).tmod 8 < 4
            · obtain ⟨ws, hw1, hw2, hw3⟩ := HX0.out.words
              have hwv := hw1.turn HS2.out.turn (by simp)
              rw [← hy4.ao, ← hy4.wn, ← hy4.wc] at hwv hw3
              obtain ⟨hh, ff, A', hcall, hcap', h64, hbirth, hmono⟩ := once_lay HS2.out (by omega) hwv (fun hne q hq hq' => by have := hw3 hne q hq; have := HS2.out.new q hq'; omega) hw2 hown2 hmf hmw2 hD
              have HCALL := Lib.hid hcall
              have HKEY := Lib.hid (key_u64 hh h64)
              have HNX := Lib.hid (And.intro hcap' (And.intro hbirth hmono))
              have hn100 : n < maxLen := by unfold maxLen; omega
              have HN1 := Lib.hid hn100
              have HHD := Lib.hid hD
              have HYY := Lib.hid (And.intro hnk (And.intro hwm hcap))
              clear hcall hcap' h64 hbirth hmono hy4 hyB hTy hown2 hnk hmf hwm hmw hcap hD hmw2 hwv hw1 hw2 hw3 hn100
              by_cases hff : ff = 0
              · subst hff
                go_wp2_with (first
                  | (go_at_call 9; (with_reducible refine (HCALL.out).mono ?_); rintro e w7 ⟨rfl, M7, cc, hs7, ho7, hm7, hl7, hlk, hcc⟩; obtain rfl := hcc rfl; have HS7 := Lib.hid hs7; have HM7 := Lib.hid (And.intro hm7 hl7); have HO7 := Lib.hid ho7; clear hs7 hm7 hl7 ho7)
                  | (at_mapUpdate; refine wpList_mapUpdate_own _ rfl _ _ _ 74 rfl 29 3 keyU mapI (plainElem Try.prog 3) m n D rfl HO7.out HN1.out _ _ _ rfl rfl HKEY.out _ [] (plainElem_int under_i64 (by decide)) ?_; intro w8 hown8 hgr8; have HO8 := Lib.hid hown8; have HG8 := Lib.hid hgr8; clear hown8 hgr8))
                refine ⟨⟨k + 1, by omega, by simp, once_next HS7.out HO8.out HG8.out HM7.out HYY.out HNX.out HHD.out⟩, ?_⟩
                simp [intOf]; omega
              · have hff' : decide (ff = 0) = false := by simpa using hff
                go_wp2_with (first
                  | (go_at_call 9; (with_reducible refine (HCALL.out).mono ?_); rintro e w7 ⟨rfl, M7, cc, hs7, ho7, hm7, hl7, hlk, hcc⟩; have HS7 := Lib.hid hs7; have HM7 := Lib.hid (And.intro hm7 hl7); have HO7 := Lib.hid ho7; clear hs7 hm7 hl7 ho7 hcc)
                  | (at_mapUpdate; refine wpList_mapUpdate_own _ rfl _ _ _ 74 rfl 29 3 keyU mapI (plainElem Try.prog 3) m n D rfl HO7.out HN1.out _ _ _ rfl rfl HKEY.out _ [] (plainElem_int under_i64 (wrap64_wf _)) ?_; intro w8 hown8 hgr8; have HO8 := Lib.hid hown8; have HG8 := Lib.hid hgr8; clear hown8 hgr8))
                refine ⟨⟨k + 1, by omega, by simp, once_next HS7.out HO8.out HG8.out HM7.out HYY.out HNX.out HHD.out⟩, ?_⟩
                simp [intOf]; omega
            · have HFR := Lib.hid (sin_free HS2.out (by omega) y.h hy4.ok.h)
              have HN := Lib.hid (And.intro hnk (And.intro hmf (And.intro hwm (And.intro hmw2 (And.intro hcap hD)))))
              have HOW := Lib.hid hown2
              have hq' : decide ((IntKind.u64.wrap y.k).tmod 8 < 4) = false := by simpa using hq
              have HBf := Lib.hid (show Bo ∉ M.foot b from fun hk => by have := HS.out.lt hk; have := HBo.out; omega)
              have HYok := Lib.hid hy4.ok
              have HBX := Lib.hid hyB
              clear hnk hmf hwm hmw hcap hD hmw2 hown2 hy4 hyB hTy
              cases hfr : hasH A.L y.h with
              | false =>
                have e23 : A.free y.h = (A.miss, 23) := gone_free hfr
                have HFR2 : Hid (Calls Try.prog 13 #[.pointer (some ⟨b, 0, none⟩), .int .u64 y.h] wc fun e w' => e = .returned (.int .i64 23) ∧ After w b M A.miss (20 * k + 1) wc w') := Lib.hid (by have := HFR.out; rw [e23] at this; exact this)
                clear HFR e23
                go_wp2_with (go_at_call 13; (with_reducible refine (HFR2.out).mono ?_); rintro e w7 ⟨rfl, hAf⟩; have HAF := Lib.hid hAf; clear hAf)
                refine ⟨⟨k + 1, by omega, by simp, once_same HAF.out HOW.out HN.out rfl rfl⟩, ?_⟩
                simp [intOf]; omega
              | true =>
                have hcl := once_clone HFR.out HOW.out HN.out HBX.out HBf.out HYok.out HS.out.at_.ok hfr
                obtain ⟨A1, hfree, hclone, hkeep⟩ := hcl
                have HFR2 := Lib.hid hfree
                have HCL := Lib.hid hclone
                have HKP := Lib.hid hkeep
                have HGC := Lib.hid (fun (nb : Nat) (Mb : Mem) (j : Nat) (wx : World) (hj : j ≤ 10000000) (h : Gone w b nb m n Bo Mb A1 D y j wx) => gone_calls h hj)
                clear hfree hclone hkeep HFR
                go_wp2_with (first
                  | (go_at_call 13; (with_reducible refine (HFR2.out).mono ?_); rintro e w7 ⟨rfl, hp⟩; have HP7 := Lib.hid hp; clear hp)
                  | (go_at_call 24; (with_reducible refine (HCL.out _ HP7.out).mono ?_); rintro e w8 ⟨nb, Mb, rfl, hg⟩; have HG8 := Lib.hid hg; obtain ⟨-, -, -, -, a4, -, -, a7, a8⟩ := hg.box.cells; clear hg)
                  | (go_at_call 10; (with_reducible refine ((HGC.out _ _ _ _ (by omega) HG8.out).1).mono ?_); rintro e w9 ⟨rfl, hg⟩; have HG9 := Lib.hid hg; obtain ⟨-, -, -, -, b4, -, -, b7, b8⟩ := hg.box.cells; clear hg)
                  | (go_at_call 11; (with_reducible refine ((HGC.out _ _ _ _ (by omega) HG9.out).2.1).mono ?_); rintro e w10 ⟨rfl, hg⟩; have HG10 := Lib.hid hg; obtain ⟨-, -, -, -, d4, -, -, d7, d8⟩ := hg.box.cells; clear hg)
                  | (go_at_call 12; (with_reducible refine ((HGC.out _ _ _ _ (by omega) HG10.out).2.2.1).mono ?_); rintro e w11 ⟨rfl, hg⟩; have HG11 := Lib.hid hg; obtain ⟨-, -, -, -, f4, -, -, f7, f8⟩ := hg.box.cells; clear hg)
                  | (go_at_call 14; (with_reducible refine ((HGC.out _ _ _ _ (by omega) HG11.out).2.2.2.1).mono ?_); rintro e w12 ⟨rfl, hg⟩; have HG12 := Lib.hid hg; obtain ⟨-, -, -, -, g4, -, -, g7, g8⟩ := hg.box.cells; clear hg)
                  | (go_at_call 13; (with_reducible refine ((HGC.out _ _ _ _ (by omega) HG12.out).2.2.2.2.1).mono ?_); rintro e w13 ⟨rfl, hg⟩; have HG13 := Lib.hid hg; obtain ⟨-, -, -, -, i4, -, -, i7, i8⟩ := hg.box.cells; clear hg)
                  | (go_at_call 25; (with_reducible refine ((HGC.out _ _ _ _ (by omega) HG13.out).2.2.2.2.2.1).mono ?_); rintro e w14 ⟨rfl, hg⟩; have HG14 := Lib.hid hg; obtain ⟨-, -, -, -, j4, -, -, j7, j8⟩ := hg.box.cells; clear hg)
                  | (go_at_call 20; (with_reducible refine ((HGC.out _ _ _ _ (by omega) HG14.out).2.2.2.2.2.2).mono ?_); rintro e w15 ⟨rfl, rfl⟩))
                refine ⟨⟨k + 1, by omega, by simp, once_gone HG14.out (by omega) HKP.out⟩, ?_⟩
                simp [intOf]; omega
        · obtain rfl : k = len := by omega
          obtain ⟨M, A, n, D, hs, hown, hnk, hmf, hwm, hmw, hcap, hD⟩ := HREL.out
          have HU := Lib.hid (used_any hs.at_)
          have HPK := Lib.hid (peak_any hs.at_)
          have hd1 : ((used A.L : Nat) : Int) ≤ (c : Int) := by have := hs.at_.ok.top; have := hs.at_.ok.peak; omega
          have hd2 : ((A.peak : Nat) : Int) ≤ (c : Int) := by have := hs.at_.ok.peak; omega
          have HT := Lib.hid hs.turn
          clear hs hown hnk hmf hwm hmw hcap hD HREL
          go_wp2_with (first
            | (go_at_call 16; (with_reducible refine (HU.out).mono ?_); rintro e w7 ⟨rfl, rfl⟩)
            | (go_at_call 17; (with_reducible refine (HPK.out).mono ?_); rintro e w7 ⟨rfl, rfl⟩))
          go_ret
          exact ⟨rfl, HT.out⟩
  · have HN : Hid (∀ W, Calls Try.prog 8 #[.int .i64 cap] W fun e w' => e = .returned (.tuple #[.pointer none, .int .i64 2]) ∧ W = w') := Lib.hid fun W => new_no cap W (by omega)
    go_enter Try.func4, Try.ntmps4
    go_wp2_with (first
      | (go_at_call 6; (with_reducible refine (HF.out).mono ?_); rintro e w1 ⟨rfl, hT⟩; have HT1 := Lib.hid hT; clear hT)
      | (go_at_call 7; (with_reducible refine (HG.out _ HT1.out).mono ?_); rintro e w2 ⟨r, rfl, hr, hT⟩; have HT2 := Lib.hid hT; clear hT hr)
      | (go_at_call 8; (with_reducible refine (HN.out _).mono ?_); rintro e w3 ⟨rfl, rfl⟩))
    all_goals go_ret
    all_goals exact ⟨rfl, HT2.out⟩
end Arn
end Go.Proofs.Ytgcignlpinbhnaa
