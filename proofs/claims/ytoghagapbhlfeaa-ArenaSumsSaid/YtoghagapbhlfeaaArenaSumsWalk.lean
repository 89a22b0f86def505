/- The walk of ArenaSums. -/
import Derived.Test.YtoghagapbhlfeaaArenaSumsStep
import Derived.Deep.QuietTactic
import Derived.BigQuiet
set_option linter.unusedVariables false
set_option linter.unusedSimpArgs false
namespace Go.Proofs.Ytoghagapbhlfeaa
namespace Arn
open Go.RowKit Hp Go.Maps

theorem quiet_at {P : Program} {f : FuncId} {args : Array Value} {w : World} {n : Nat} {v : Value}
    (h : Calls P f args (w.drewN n) fun e w' => e = .returned v ∧ w.drewN n = w') : Calls P f args (w.drewN n) fun e w'' => e = .returned v ∧ ∃ m, w'' = w.drewN m :=
  h.mono fun _ _ ⟨he, hm⟩ => ⟨he, n, hm.symm⟩
/-- Between two rounds of ArenaSums. -/
def SumsRel (w : World) (b c : Nat) (k : Nat) (wr : World) : Prop := ∃ (M : Mem) (A : Ar), Sin w b M A (20 * k) wr ∧ Bal A ∧ A.cap = c ∧ A.L.length ≤ k

set_option maxRecDepth 100000 in
set_option maxHeartbeats 4000000 in
theorem sums_any (cap : Int) (a0 : Option Addr) (len lc : Nat) (w : World) (hops : 0 < len → ∃ bl off, a0 = some ⟨bl, off, none⟩ ∧ OpsAt w bl off len) (hlen : len ≤ 9223372036854775807) :
    Calls Try.prog 5 #[.int .i64 cap, .slice a0 len lc] w fun e w' => e = .returned (.bool true) ∧ Frm.Turn [] w w' := by
  have HF := Lib.hid (first_any w)
  have HG : Hid (∀ W, Frm.Turn [] w W → Calls Try.prog 10 #[.slice a0 len lc] W fun e w' => ∃ r : Bool, e = .returned (.bool r) ∧ (r = false → len ≤ 100) ∧ Frm.Turn [] w w') :=
    Lib.hid fun W hT => (great_any a0 len lc W (fun hp => (hops hp).elim fun bl h => h.elim fun off h => ⟨bl, off, h.1, h.2.step hT⟩) hlen).mono (by rintro e w' ⟨r, h1, h2, h3⟩; exact ⟨r, h1, h2, hT.trans h3 (by simp)⟩)
  have HO := Lib.hid hops
  clear hops
  by_cases hc : 0 ≤ cap ∧ cap ≤ 60000
  · obtain ⟨c, rfl⟩ : ∃ c : Nat, cap = (c : Int) := ⟨cap.toNat, by omega⟩
    have HN : Hid (∀ W, Frm.Turn [] w W → Calls Try.prog 11 #[.int .i64 (c : Int)] W fun e w' => ∃ b M, e = .returned (.tuple #[.pointer (some ⟨b, 0, none⟩), .int .i64 0]) ∧ Sin w b M (Ar.new c) 0 w') :=
      Lib.hid fun W hT => (sin_new c W (by omega)).mono (by rintro e w' ⟨b, M, h1, h2⟩; exact ⟨b, M, h1, ⟨h2.at_, fun k hk => Nat.le_trans hT.size (h2.new k hk), hT.trans h2.turn (by simp), h2.low, h2.born⟩⟩)
    have hmk := run_makeMap_n
    have hmm := @run_makeMap Try.prog
    go_enter Try.func5, Try.ntmps5
    go_wp2_with (first
      | (go_at_call 9; (with_reducible refine (HF.out).mono ?_); rintro e w1 ⟨rfl, hT⟩; have HT1 := Lib.hid hT; clear hT)
      | (go_at_call 10; (with_reducible refine (HG.out _ HT1.out).mono ?_); rintro e w2 ⟨r, rfl, hr, hT⟩; have HR := Lib.hid hr; have HT2 := Lib.hid hT; clear hT hr)
      | (go_at_call 11; (with_reducible refine (HN.out _ HT2.out).mono ?_); rintro e w3 ⟨b, M, rfl, hs⟩; have HS := Lib.hid hs; clear hs))
    · go_ret
      exact ⟨rfl, HT2.out⟩
    · have hl100 : len ≤ 100 := HR.out (by assumption)
      have hstart : SumsRel w b c 0 w3 := ⟨M, Ar.new c, HS.out, rfl, rfl, Nat.le_refl _⟩
      have hst := hstart
      clear hstart HS HT1 HT2 HR HF HG HN hmm
      go_loopw [35] (fun i wr => ∃ k : Nat, k ≤ len ∧ i = .int .i64 k ∧ SumsRel w b c k wr) (fun i _ => len - (intOf i).toNat)
      case atStart => exact ⟨0, Nat.zero_le _, rfl, hst⟩
      case round =>
        obtain ⟨k, hk, rfl, hrel⟩ := hrel
        have HREL := Lib.hid hrel
        clear hrel hst
        by_cases hlt : k < len
        · obtain ⟨bl, off, rfl, hopsA⟩ := HO.out (by omega)
          obtain ⟨x, hx⟩ := hopsA k hlt
          obtain ⟨M, A, hs, hbal, hcap, hlk⟩ := HREL.out
          have HX0 := Lib.hid hx
          have hx' := hx.step hs.turn
          have c0 := hx'.c0; have c1 := hx'.c1; have c2 := hx'.c2; have c3 := hx'.c3; have c4 := hx'.c4; have c5 := hx'.c5; have c6 := hx'.c6; have c7 := hx'.c7; have c8 := hx'.c8
          have HX := Lib.hid hx'
          have HS := Lib.hid hs
          have HP := Lib.hid (And.intro hbal (And.intro hcap hlk))
          clear hx hx' hs hbal hcap hlk hopsA HREL
          go_wp2
          have HB := Lib.hid (BoxOp.new wr x)
          have HTW := Lib.hid ((Frm.Turn.refl [] wr).alloc (.cells #[.int .i64 x.k, .int .i64 x.a, .int .i64 x.o, .slice x.ao x.wn x.wc, .int .u64 x.h, .int .u64 x.xb, .int .i64 x.xa, .int .u64 x.n, .int .u64 x.m] 57))
          have HBN := Lib.hid (show wr.heap.size < (wr.alloc (.cells #[.int .i64 x.k, .int .i64 x.a, .int .i64 x.o, .slice x.ao x.wn x.wc, .int .u64 x.h, .int .u64 x.xb, .int .i64 x.xa, .int .u64 x.n, .int .u64 x.m] 57)).heap.size by simp)
          generalize wr.alloc (.cells #[.int .i64 x.k, .int .i64 x.a, .int .i64 x.o, .slice x.ao x.wn x.wc, .int .u64 x.h, .int .u64 x.xb, .int .i64 x.xa, .int .u64 x.n, .int .u64 x.m] 57) = W at HB HTW HBN ⊢
          generalize hBo : wr.heap.size = Bo at HB HBN ⊢
          have HBo := Lib.hid hBo
          clear hBo
          clear c0 c1 c2 c3 c4 c5 c6 c7 c8
          have HBl := Lib.hid (sin_of (HS.out.step (HTW.out.drew)))
          have HBW := Lib.hid (HB.out.cells)
          go_cut [40] (fun s40 W2 => ∃ y : OpV, Same4 x y ∧ BoxOp W2 Bo y ∧ Frm.Turn [] wr W2)
          case first =>
            rename_i J K' hRJ hMK
            have HMK := Lib.hid hMK
            have HRJ := Lib.hid hRJ
            clear hMK hRJ
            obtain ⟨c0, c1, c2, c3, c4, c5, c6, c7, c8⟩ := HBW.out
            go_region_with (first
              | (go_at_call 25; (with_reducible refine (HBl.out).mono ?_); rintro e w5 ⟨ao5, c5', ys, base5, rfl, hr5, hl5, h65, hT5⟩; have HOF := Lib.hid (of_flat x HX.out.ok ao5 c5' ys w5 hr5 hl5 h65); have HT5 := Lib.hid hT5; have HB5 := Lib.hid (BoxOp.turn HB.out (((Frm.Turn.refl [] W).drew).trans hT5 (by simp)) (by simp)); clear hr5 hl5 h65 hT5; obtain ⟨k0, k1, k2, k3, k4, k5, k6, k7, k8⟩ := HB5.out.cells)
              | (go_at_call 29; (with_reducible refine (HOF.out).mono ?_); rintro e w6 ⟨y, hy4, rfl, hT6⟩; have HY4 := Lib.hid hy4; have HT6 := Lib.hid hT6; have HB6 := Lib.hid (BoxOp.turn HB5.out hT6 (by simp)); clear hy4 hT6; obtain ⟨j0, j1, j2, j3, j4, j5, j6, j7, j8⟩ := HB6.out.cells; have l0 := HB6.out.thaw 0; have l1 := HB6.out.thaw 1; have l2 := HB6.out.thaw 2; have l3 := HB6.out.thaw 3; have l4 := HB6.out.thaw 4; have l5 := HB6.out.thaw 5; have l6 := HB6.out.thaw 6; have l7 := HB6.out.thaw 7; have l8 := HB6.out.thaw 8))
            all_goals dsimp only [Exit.then]
            all_goals refine HMK.out _ _ (Met.intro (HRJ.out _ _ ?_))
            all_goals (repeat apply Exists.intro)
            all_goals refine ⟨?_, rfl⟩
            all_goals exact ⟨y, HY4.out, (BoxOp.store HB6.out).1, (((HTW.out.drew).trans HT5.out (by simp)).trans HT6.out (by simp)).trans (BoxOp.store (y := y) HB6.out).2 (fun q hq => by simp at hq; have := HBo.out; omega)⟩
          case rest =>
            obtain ⟨y, hy4, hyB, hTy⟩ := hcut
            have HS2 := Lib.hid (HS.out.step hTy)
            have HYB := Lib.hid hyB
            have HY4 := Lib.hid hy4
            have HBf := Lib.hid (show Bo ∉ M.foot b from fun hk => by have := HS.out.lt hk; have := HBo.out; omega)
            have HCL := Lib.hid (aclone_any HS2.out.at_)
            clear hyB hy4 hTy
            go_upto_region 14 with (go_at_call 27; (with_reducible refine (HCL.out).mono ?_); rintro e w8 ⟨nb, Mb, rfl, hat, hnew, hT8⟩; have HTW8 := Lib.hid hat; have HNW8 := Lib.hid hnew; have HT8 := Lib.hid hT8; have HB8 := Lib.hid (HYB.out.turn hT8 (by simp)); clear hat hnew hT8)
            obtain ⟨c0, c1, c2, c3, c4, c5, c6, c7, c8⟩ := HB8.out.cells
            have hq8 : 0 ≤ (IntKind.u64.wrap y.k).tmod 8 ∧ (IntKind.u64.wrap y.k).tmod 8 < 8 := by
              have h0 : 0 ≤ IntKind.u64.wrap y.k := by simp only [IntKind.wrap_u64]; omega
              exact ⟨Int.tmod_nonneg _ h0, Int.tmod_lt_of_pos _ (by omega)⟩
            have HQ8 := Lib.hid hq8
            clear hq8
            go_cut [48] (fun s48 W => W = w8 ∧ ∃ q : Int, 0 ≤ q ∧ q < 8 ∧ s48 = .int .u64 q)
            case first =>
              go_wp2
              go_meet
              exact ⟨rfl, _, HQ8.out.1, HQ8.out.2, rfl⟩
            case rest =>
              obtain ⟨rfl, q, hq0, hq1, rfl⟩ := hcut
              refine ‹∀ (a : Act) (w : World), Code.wp _ _ _ a w → _› _ _ ?_
              obtain ⟨hbal, hcap, hlk⟩ := HP.out
              have hsa : SumsAt w b nb M Mb A (20 * k) wc := ⟨HS2.out.step HT8.out, HTW8.out, fun p hp hp' => by have := HNW8.out p hp; have := HS2.out.lt hp'; omega, hbal, by omega⟩
              have HSA := Lib.hid hsa
              have HX4 := Lib.hid HX0.out.words
              clear hbal hcap hlk hsa
              go_cut [10] (fun s10 W => ∃ sm : Bool, s10 = .bool sm ∧ SumsMid w b nb Mb A (20 * k + 1) sm W)
              case first =>
                have hq : q = 0 ∨ q = 1 ∨ q = 2 ∨ q = 3 ∨ q = 4 ∨ q = 5 ∨ q = 6 ∨ q = 7 := by omega
                clear hq0 hq1
                rcases hq with rfl | rfl | rfl | rfl | rfl | rfl | rfl | rfl
                iterate 2
                  · obtain ⟨ws, hw1, hw2, hw3⟩ := HX4.out
                    have hwv := hw1.turn HSA.out.sin.turn (by simp)
                    rw [← HY4.out.ao, ← HY4.out.wn, ← HY4.out.wc] at hwv hw3
                    obtain ⟨r1, r2, hcall⟩ := sums_lay HSA.out hwv (fun hne p hp hp' => by have := hw3 hne p hp; have := HSA.out.sin.new p hp'; omega) hw2
                    have HCALL := Lib.hid hcall
                    clear hcall hwv hw1 hw2 hw3
                    go_wp2_with (go_at_call 12; (with_reducible refine (HCALL.out).mono ?_); rintro e w9 ⟨rfl, hm⟩; have HM := Lib.hid hm; clear hm)
                    go_meet
                    exact ⟨_, rfl, HM.out⟩
                · obtain ⟨r, hcall⟩ := sums_free HSA.out y.h HY4.out.ok.h
                  have HCALL := Lib.hid hcall
                  clear hcall
                  go_wp2_with (go_at_call 16; (with_reducible refine (HCALL.out).mono ?_); rintro e w9 ⟨rfl, hm⟩; have HM := Lib.hid hm; clear hm)
                  go_meet
                  exact ⟨_, rfl, HM.out⟩
                · obtain ⟨r1, r2, hcall⟩ := sums_read HSA.out y.xb y.xa HY4.out.ok.xb HY4.out.ok.xa
                  have HCALL := Lib.hid hcall
                  clear hcall
                  go_wp2_with (go_at_call 13; (with_reducible refine (HCALL.out).mono ?_); rintro e w9 ⟨rfl, hm⟩; have HM := Lib.hid hm; clear hm)
                  go_meet
                  exact ⟨_, rfl, HM.out⟩
                · obtain ⟨r, sm, hcall, hr⟩ := sums_write HSA.out y.xb y.xa y.n HY4.out.ok.xb HY4.out.ok.xa HY4.out.ok.n
                  rcases hr with ⟨rfl, rfl⟩ | ⟨rfl, rfl⟩ | ⟨rfl, rfl⟩
                  all_goals
                    have HCALL := Lib.hid hcall
                    clear hcall
                    go_wp2_with (go_at_call 17; (with_reducible refine (HCALL.out).mono ?_); rintro e w9 ⟨rfl, hm⟩; have HM := Lib.hid hm; clear hm)
                    go_meet
                    exact ⟨_, rfl, HM.out⟩
                · obtain ⟨r2, sm, hcall⟩ := sums_swap HSA.out y.xb y.xa y.n y.m HY4.out.ok.xb HY4.out.ok.xa HY4.out.ok.m
                  cases sm
                  all_goals
                    have HCALL := Lib.hid hcall
                    simp only [Bool.not_true, Bool.not_false] at HCALL
                    clear hcall
                    go_wp2_with (go_at_call 14; (with_reducible refine (HCALL.out).mono ?_); rintro e w9 ⟨rfl, hm⟩; have HM := Lib.hid hm; clear hm)
                    go_meet
                    exact ⟨_, rfl, HM.out⟩
                · obtain ⟨r1, r2, sm, hcall, hr⟩ := sums_add HSA.out y.xb y.xa y.n HY4.out.ok.xb HY4.out.ok.xa HY4.out.ok.n
                  have HB8' := Lib.hid (fun w9 (hT : Frm.Turn (M.foot b) wc w9) => (HB8.out.turn hT HBf.out).cells)
                  rcases hr with ⟨rfl, rfl⟩ | ⟨rfl, rfl⟩ | ⟨rfl, rfl⟩
                  · obtain ⟨z, HZ⟩ : ∃ z, Hid (z = (y.n == 0)) := ⟨_, Lib.hid rfl⟩
                    rw [← HZ.out] at hcall
                    have HCALL := Lib.hid hcall
                    clear hcall
                    have hz : (y.n == 0) = z := HZ.out.symm
                    cases z
                    all_goals
                      go_wp2_with (go_at_call 15; (with_reducible refine (HCALL.out).mono ?_); rintro e w9 ⟨rfl, hm, hT⟩; have HM := Lib.hid hm; obtain ⟨-, -, -, -, -, -, -, g7, -⟩ := HB8'.out _ hT; clear hm hT)
                      go_meet
                      exact ⟨_, rfl, HM.out⟩
                  all_goals
                    have HCALL := Lib.hid hcall
                    clear hcall
                    go_wp2_with (go_at_call 15; (with_reducible refine (HCALL.out).mono ?_); rintro e w9 ⟨rfl, hm, hT⟩; clear hT; have HM := Lib.hid hm; clear hm)
                    go_meet
                    exact ⟨_, rfl, HM.out⟩
                · go_wp2
                  go_meet
                  exact ⟨_, rfl, sums_none HSA.out⟩
              case rest =>
                obtain ⟨sm, rfl, M', A', hs', htw, hbal', hcap', hlen', hst'⟩ := hcut
                have hall : A'.L.length ≤ 300 := by have := HP.out.2.2; omega
                have HCP := Lib.hid (show A'.cap = c by rw [hcap', HP.out.2.1])
                have HLN := Lib.hid (show A'.L.length ≤ k + 1 by have := HP.out.2.2; omega)
                have HBL := Lib.hid hbal'
                have HSM : Hid (sm = true → Calls Try.prog 28 #[.pointer (some ⟨b, 0, none⟩), .pointer (some ⟨nb, 0, none⟩)] wc fun e w' => e = .returned (.bool true) ∧ Frm.Turn [] wc w') :=
                  Lib.hid fun hsm => (same_any hs'.at_ htw).mono (by rw [sameAr_refl htw.ok (hst' hsm).1 (hst' hsm).2]; exact fun e w' h => h)
                have HS3 := Lib.hid hs'
                clear hs' htw hbal' hcap' hlen' hst' c0 c1 c2 c3 c4 c5 c6 c7 c8
                refine ‹∀ (a : Act) (w : World), Code.wp _ _ _ a w → _› _ _ ?_
                go_upto_region 31 with fail
                go_cut [116] (fun s W => s = .bool false ∧ Frm.Turn [] wc W)
                case first =>
                  cases sm
                  · go_wp2
                    go_meet
                    exact ⟨rfl, Frm.Turn.refl [] _⟩
                  · go_wp2_with (go_at_call 28; (with_reducible refine (HSM.out rfl).mono ?_); rintro e w9 ⟨rfl, hT⟩; have HT9 := Lib.hid hT; clear hT)
                    go_meet
                    exact ⟨rfl, HT9.out⟩
                case rest =>
                  obtain ⟨rfl, hT9⟩ := hcut
                  have HS4 := Lib.hid (HS3.out.step hT9)
                  have HBK := Lib.hid (sums_blocks HS4.out hall)
                  clear hT9 HSM HS3
                  go_wp2_with (go_at_call 25; (with_reducible refine (HBK.out).mono ?_); rintro e w10 ⟨ao5, c5', ys, rfl, hr5, hy5, hT10⟩; have HR5 := Lib.hid hr5; have HY5 := Lib.hid hy5; have HT10 := Lib.hid hT10; clear hr5 hy5 hT10)
                  have hys : ys.length ≤ 300 := by have := congrArg List.length HY5.out; simp at this; omega
                  have hu6 : used A'.L ≤ 60000 := by have h1 := HS4.out.at_.ok.top; have h2 := HS4.out.at_.ok.peak; have h3 := HS4.out.at_.ok.cap; omega
                  go_loopw [15, 16, 120] (fun n u i wz => ∃ j : Nat, j ≤ ys.length ∧ i = .int .i64 j ∧ n = .int .i64 j ∧ u = .int .i64 ((sumTo ys j : Nat) : Int) ∧ Frm.Turn [] w10 wz) (fun _ _ i _ => ys.length - (intOf i).toNat)
                  case atStart => exact ⟨0, Nat.zero_le _, rfl, rfl, by simp [sumTo], Frm.Turn.refl [] _⟩
                  case round =>
                    obtain ⟨j, hj, rfl, rfl, rfl, hTz⟩ := hrel
                    by_cases hlt2 : j < ys.length
                    · obtain ⟨y5, hy5⟩ : ∃ y5, ys[j]? = some y5 := ⟨_, List.getElem?_eq_getElem hlt2⟩
                      have HTZ := Lib.hid hTz
                      obtain ⟨g5, rfl⟩ : ∃ g5, ao5 = some ⟨g5, 0, none⟩ := by
                        rcases ownsRow_shape HR5.out with ⟨e1, e2⟩ | ⟨g, cap, e, _⟩
                        · omega
                        · cases e; exact ⟨_, rfl⟩
                      have hcA : wr.cell? ⟨g5, j * 2, none⟩ = some (.int .u64 y5.1.h) := hTz.cell (by have := World.ownsRow.cells HR5.out rfl (j * 2) _ (gotCells_get ys j y5 hy5); rwa [add_zero_off] at this) (by simp)
                      have hcB : wr.cell? ⟨g5, j * 2 + 1, none⟩ = some (.slice (some ⟨y5.2.1, 0, none⟩) y5.1.ws.length y5.2.2) := hTz.cell (by have := World.ownsRow.cells HR5.out rfl (j * 2 + 1) _ (gotCells_get2 ys j y5 hy5); rwa [add_zero_off] at this) (by simp)
                      obtain ⟨z1, z2, z3⟩ := size_got HS4.out.at_.ok HY5.out hy5
                      have HSZ : Hid (∀ W, Frm.Turn [] w10 W → Calls Try.prog 23 #[.pointer (some ⟨b, 0, none⟩), .int .u64 y5.1.h] W fun e w' => e = .returned (.int .i64 (y5.1.ws.length : Int)) ∧ W = w') := Lib.hid fun W hT => by
                        have := size_any ((HS4.out.step (HT10.out.trans hT (by simp))).at_) y5.1.h z2
                        rw [z1] at this
                        exact this
                      have hs5 : sumTo ys j ≤ 60000 := by have := sumTo_le HY5.out j; omega
                      have HSS := Lib.hid (sumTo_succ hy5)
                      clear hTz hy5 z1 z2
                      generalize y5.1.ws.length = nn at hcB z3 HSZ HSS
                      generalize sumTo ys j = sj at hs5 HSS ⊢
                      go_wp2_with fail
                      go_quiet ((go_at_call 23; exact quiet_at (HSZ.out _ ((HTZ.out.alloc _).drewN _))))
                      go_wp2
                      refine ⟨⟨j + 1, by omega, by simp, by simp, by rw [HSS.out]; simp, by repeat (first | exact HTZ.out | apply Frm.Turn.drewN | apply Frm.Turn.drew | apply Frm.Turn.alloc)⟩, ?_⟩
                      simp [intOf]; omega
                    · obtain rfl : j = ys.length := by omega
                      have HTZ := Lib.hid hTz
                      have hlenE := congrArg List.length HY5.out
                      simp only [List.length_map] at hlenE
                      simp only [sumTo_all HY5.out]
                      simp only [hlenE]
                      have hsf := HS4.out.step (HT10.out.trans hTz (by simp))
                      have HTL := Lib.hid (tally_any hsf.at_)
                      have HSF := Lib.hid hsf
                      have HST := Lib.hid (fun W (hT : Frm.Turn [] wr W) => (hsf.step hT).at_)
                      have hl1 : A'.t.lays ≤ 100000 := by have := hsf.low.lays; omega
                      have hl2 : A'.t.frees ≤ 100000 := by have := hsf.low.frees; omega
                      have hl3 : ((A'.t.lays : Int) - (A'.t.frees : Int)) = (A'.L.length : Int) := by have := HBL.out; unfold Bal at this; omega
                      have hp1 : decide ((A'.peak : Int) < (used A'.L : Int)) = false := by have := hsf.at_.ok.top; simp; omega
                      have hp2 : decide (A'.peak < used A'.L) = false := by have := hsf.at_.ok.top; simp; omega
                      have hp3 : decide ((A'.cap : Int) < (used A'.L : Int)) = false := by have := hsf.at_.ok.top; have := hsf.at_.ok.peak; simp; omega
                      have hp4 : decide (A'.cap < used A'.L) = false := by have := hsf.at_.ok.top; have := hsf.at_.ok.peak; simp; omega
                      clear hTz hlenE hsf
                      go_wp2_with (first
                        | (go_at_call 26; (with_reducible refine (HTL.out).mono ?_); unfold tal; rintro e w11 ⟨rfl, hT⟩; have HT11 := Lib.hid hT; clear hT)
                        | (go_at_call 21; (with_reducible refine (len_any (HST.out _ (HT11.out.alloc _))).mono ?_); rintro e w12 ⟨rfl, rfl⟩)
                        | (go_at_call 19; (with_reducible refine (used_any (HST.out _ (HT11.out.alloc _))).mono ?_); rintro e w12 ⟨rfl, rfl⟩)
                        | (go_at_call 20; (with_reducible refine (peak_any (HST.out _ (HT11.out.alloc _))).mono ?_); rintro e w12 ⟨rfl, rfl⟩)
                        | (go_at_call 18; (with_reducible refine (cap_any (HST.out _ (HT11.out.alloc _))).mono ?_); rintro e w12 ⟨rfl, rfl⟩))
                      refine ⟨⟨k + 1, by omega, by simp, M', A', (HSF.out.step (HT11.out.alloc _)).more (by omega), HBL.out, HCP.out, HLN.out⟩, ?_⟩
                      simp [intOf]; omega
        · obtain rfl : k = len := by omega
          obtain ⟨M, A, hs, hbal, hcap, hlk⟩ := HREL.out
          have HT := Lib.hid hs.turn
          clear hs hbal hcap hlk HREL
          go_wp2
          go_ret
          exact ⟨rfl, HT.out⟩
  · have HN : Hid (∀ W, Calls Try.prog 11 #[.int .i64 cap] W fun e w' => e = .returned (.tuple #[.pointer none, .int .i64 2]) ∧ W = w') := Lib.hid fun W => new_no cap W (by omega)
    go_enter Try.func5, Try.ntmps5
    go_wp2_with (first
      | (go_at_call 9; (with_reducible refine (HF.out).mono ?_); rintro e w1 ⟨rfl, hT⟩; have HT1 := Lib.hid hT; clear hT)
      | (go_at_call 10; (with_reducible refine (HG.out _ HT1.out).mono ?_); rintro e w2 ⟨r, rfl, hr, hT⟩; have HT2 := Lib.hid hT; clear hT hr)
      | (go_at_call 11; (with_reducible refine (HN.out _).mono ?_); rintro e w3 ⟨rfl, rfl⟩))
    all_goals go_ret
    all_goals exact ⟨rfl, HT2.out⟩
end Arn
end Go.Proofs.Ytoghagapbhlfeaa
