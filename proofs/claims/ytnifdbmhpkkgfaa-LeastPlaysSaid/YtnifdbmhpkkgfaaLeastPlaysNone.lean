/- The walk of law LeastPlays where there is nothing to go through, too much, or no stock; and at every input. -/
import Derived.Test.YtnifdbmhpkkgfaaLeastPlaysWalk
set_option linter.unusedVariables false
set_option linter.unusedSimpArgs false
namespace Go.Proofs.Ytnifdbmhpkkgfaa
namespace Lst
open Go.RowKit Hp
attribute [local go_sem ↓] Go.wp_at_zero Go.wp_at_succ

set_option maxRecDepth 100000 in
set_option maxHeartbeats 16000000 in
theorem plays_none (most : Nat) (n : Int) (a0 : Option Addr) (cap : Nat) (w0 : World) (hm : most ≤ 65535) (hn : (Lit.int .i64 n).wf = true) :
    Calls Try.prog 3 #[.int .i64 (most : Int), .slice a0 0 cap, .int .i64 n] w0 fun e w' => e = .returned (.bool true) ∧ Frm.Turn [] w0 w' := by
  have hm0 : decide ((most : Int) < 0) = false := by simp
  have hm1 : decide (65535 < (most : Int)) = false := by simp; omega
  go_enter Try.func3, Try.ntmps3
  go_wp2_with fail
  refine (first_any w0).mono ?_
  rintro e w1 ⟨rfl, hT1⟩
  have HT1 := Lib.hid hT1
  clear hT1
  go_wp2_with fail
  refine (own_new w0 most _ hm HT1.out).mono ?_
  rintro e w2 ⟨b, rfl, ho⟩
  have HO := Lib.hid ho
  clear ho
  go_wp2
  go_loopw [11, 12, 89] (fun va vw i wr => PlaysRel w0 0 most va vw i wr) (fun _ _ i _ => 0 - (intOf i).toNat)
  case atStart =>
    obtain ⟨F, hM⟩ := many_one HO.out
    refine ⟨0, _, _, _, _, _, by omega, rfl, rfl, rfl, hM, fun j x hx => ?_⟩
    cases j with
    | zero => simp at hx; subst hx; exact agree_one most b F
    | succ j => simp at hx
  case round =>
    obtain ⟨k, st, ga, ca, gw, cw, hk, rfl, rfl, rfl, hM, hA⟩ := hrel
    by_cases hlt : k < 0
    · omega
    · have hfew := hM.few
      have HM := Lib.hid hM
      have HA := Lib.hid hA
      clear hM hA
      go_wp2
      obtain ⟨wo, rfl⟩ : ∃ wo : World, wo = wr := ⟨_, rfl⟩
      go_loopw [204] (fun i wr => EndRel w0 most st ga ca gw cw i wr) (fun i _ => st.length - (intOf i).toNat)
      case atStart => exact ⟨0, by omega, rfl, HM.out⟩
      case round =>
        obtain ⟨j, hj, rfl, hMj⟩ := hrel
        by_cases hlt2 : j < st.length
        · obtain ⟨o, hx⟩ : ∃ o, st[j]? = some o := ⟨st[j], by simp [hlt2]⟩
          obtain ⟨c0, c1, c2⟩ := hMj.cell_at hx
          have a0 := hMj.ptr_at hx
          have hAg := HA.out j o hx
          have hll : o.l.length ≤ 65535 := by
            have h1 := hAg.len; have h2 := len_le (S := o.S); have h3 := (hMj.each j o hx).stock.ok.high; have h4 := (hMj.each j o hx).stock.ok.most; omega
          have hL := (hMj.each j o hx).list
          have hj0 : (0 : Int) ≤ (j : Int) := by omega
          have hj1 : (j : Int) < (st.length : Int) := by omega
          have HMJ := Lib.hid hMj
          have HX := Lib.hid hx
          have HAG := Lib.hid hAg
          rcases hL.cases with ⟨hv, hl0⟩ | ⟨g, cg, hv, hcg⟩
          · rw [hv] at c2
            have HLN0 := Lib.hid (show o.S.len = 0 by rw [← hAg.len, hl0, List.length_nil])
            clear hl0
            have HV := Lib.hid hv
            have HL : Hid (LAt wr (.slice none 0 0) o.l) := Lib.hid (by rw [← hv]; exact hL)
            have hkeep : ∀ W, Frm.Turn [] wr W → W.cell? ⟨gw, j * 3, none⟩ = some (.int .i64 (most : Int)) ∧ W.cell? ⟨gw, j * 3 + 1, none⟩ = some (.int .i64 (o.high : Int)) ∧ W.cell? ⟨gw, j * 3 + 2, none⟩ = some (.slice none 0 0) :=
              fun W hTW => ⟨hTW.cell c0 (by simp), hTW.cell c1 (by simp), hTW.cell c2 (by simp)⟩
            have HK := Lib.hid hkeep
            clear hMj hx hAg hL hv hkeep
            go_wp2_with fail
            go_region_held3 (fun w' => w'.cell? ⟨gw, j * 3, none⟩ = some (.int .i64 (most : Int)) ∧ w'.cell? ⟨gw, j * 3 + 1, none⟩ = some (.int .i64 (o.high : Int)) ∧ w'.cell? ⟨gw, j * 3 + 2, none⟩ = some (.slice none 0 0))
              (first | exact HK.out _ ((Frm.Turn.refl [] wr).drew) | exact HK.out _ HT4.out | exact HK.out _ HT5.out | go_keep)
              (first
                | (go_at_call 11; (with_reducible refine (many_len (HMJ.out.step ((Frm.Turn.refl [] _).drew)) HX.out 0 HLN0.out).mono ?_); rintro e w3 ⟨rfl, rfl⟩)
                | (go_at_call 12; (with_reducible refine (many_high (HMJ.out.step ((Frm.Turn.refl [] _).drew)) HX.out o.high HAG.out.high.symm).mono ?_); rintro e w3 ⟨rfl, rfl⟩)
                | (go_at_call 10; (with_reducible refine (used_any o.b o.F o.S n _ (((HMJ.out.each j o HX.out).stock).turn ((Frm.Turn.refl [] wr).drew) (by simp)) hn).mono ?_); rintro e w4 ⟨rfl, hT4⟩; have HT4 := Lib.hid (((Frm.Turn.refl [] wr).drew).trans hT4 (by simp)); clear hT4)
                | (go_at_call 16; (with_reducible refine (rhas_any (HL.out.turn HT4.out (by simp)) (by omega) _ _ n _ (HAG.out.used n).symm).mono ?_); rintro e w5 ⟨rfl, hT5⟩; have HT5 := Lib.hid (HT4.out.trans hT5 (by simp)); clear hT5))
            have hM5 := HMJ.out.step HT5.out
            go_wp2
            refine wp_loop_rounds 1 ?_
            rw [rounds_succ]
            go_wp2
            go_roundw
            case rel => exact ⟨j + 1, by omega, by go_num, hM5⟩
            case measure => simp [intOf]; omega
          · rw [hv] at c2
            have HV := Lib.hid hv
            have HCG := Lib.hid hcg
            have HL : Hid (LAt wr (.slice (some ⟨g, 0, none⟩) o.l.length cg) o.l) := Lib.hid (by rw [← hv]; exact hL)
            have hkeep : ∀ W, Frm.Turn [] wr W → W.cell? ⟨gw, j * 3, none⟩ = some (.int .i64 (most : Int)) ∧ W.cell? ⟨gw, j * 3 + 1, none⟩ = some (.int .i64 (o.high : Int)) ∧ W.cell? ⟨gw, j * 3 + 2, none⟩ = some (.slice (some ⟨g, 0, none⟩) o.l.length cg) :=
              fun W hTW => ⟨hTW.cell c0 (by simp), hTW.cell c1 (by simp), hTW.cell c2 (by simp)⟩
            have HK := Lib.hid hkeep
            clear hMj hx hAg hL hv hcg hkeep
            go_wp2_with fail
            go_region_held3 (fun w' => w'.cell? ⟨gw, j * 3, none⟩ = some (.int .i64 (most : Int)) ∧ w'.cell? ⟨gw, j * 3 + 1, none⟩ = some (.int .i64 (o.high : Int)) ∧ w'.cell? ⟨gw, j * 3 + 2, none⟩ = some (.slice (some ⟨g, 0, none⟩) o.l.length cg))
              (first | exact HK.out _ ((Frm.Turn.refl [] wr).drew) | exact HK.out _ HT4.out | exact HK.out _ HT5.out | go_keep)
              (first
                | (go_at_call 11; (with_reducible refine (many_len (HMJ.out.step ((Frm.Turn.refl [] _).drew)) HX.out o.l.length HAG.out.len.symm).mono ?_); rintro e w3 ⟨rfl, rfl⟩)
                | (go_at_call 12; (with_reducible refine (many_high (HMJ.out.step ((Frm.Turn.refl [] _).drew)) HX.out o.high HAG.out.high.symm).mono ?_); rintro e w3 ⟨rfl, rfl⟩)
                | (go_at_call 10; (with_reducible refine (used_any o.b o.F o.S n _ (((HMJ.out.each j o HX.out).stock).turn ((Frm.Turn.refl [] wr).drew) (by simp)) hn).mono ?_); rintro e w4 ⟨rfl, hT4⟩; have HT4 := Lib.hid (((Frm.Turn.refl [] wr).drew).trans hT4 (by simp)); clear hT4)
                | (go_at_call 16; (with_reducible refine (rhas_any (HL.out.turn HT4.out (by simp)) (by omega) _ _ n _ (HAG.out.used n).symm).mono ?_); rintro e w5 ⟨rfl, hT5⟩; have HT5 := Lib.hid (HT4.out.trans hT5 (by simp)); clear hT5))
            have hM5 := HMJ.out.step HT5.out
            go_wp2
            obtain ⟨wo2, rfl⟩ : ∃ wo : World, wo = w5 := ⟨_, rfl⟩
            go_loopw [246] (fun i wr => InnerEnd w0 most st ga ca gw cw o.l.length i wr) (fun i _ => o.l.length - (intOf i).toNat)
            case atStart => exact ⟨0, by omega, rfl, hM5⟩
            case round =>
              obtain ⟨m, hm1, rfl, hMm⟩ := hrel
              by_cases hlt3 : m < o.l.length
              · have hcell := (hMm.each j o HX.out).list
                rw [HV.out] at hcell
                have hc3 := lat_cell hcell m hlt3
                have hu : o.S.used (Hp.at_ o.l m : Int) = true := by rw [HAG.out.used, hasB_true]; exact ⟨m, hlt3, rfl⟩
                have hwf : (Lit.int .i64 (Hp.at_ o.l m : Int)).wf = true := wf_small (by omega) (by
                  have h1 := ((used_iff o.S _).1 hu).1.2
                  have h3 := (hMm.each j o HX.out).stock.ok.high; have h4 := (hMm.each j o HX.out).stock.ok.most; omega)
                have hm0 : (0 : Int) ≤ (m : Int) := by omega
                have hml : (m : Int) < (o.l.length : Int) := by omega
                obtain ⟨p, hp⟩ : ∃ p : Int, p = (Hp.at_ o.l m : Int) := ⟨_, rfl⟩
                rw [← hp] at hc3 hu hwf
                have HMM := Lib.hid hMm
                have HU := Lib.hid hu
                clear hMm hu hcell hp
                go_wp2_with (go_at_call 10; (with_reducible refine (many_used HMM.out HX.out p true hwf HU.out).mono ?_); rintro e w6 ⟨rfl, hM6⟩; have HM6 := Lib.hid hM6; clear hM6)
                go_roundw
                case rel => exact ⟨m + 1, by omega, by go_num, HM6.out⟩
                case measure => simp [intOf]; omega
              · have HMM := Lib.hid hMm
                clear hMm
                go_wp2
                go_roundw
                case rel => exact ⟨j + 1, by omega, by go_num, HMM.out⟩
                case measure => simp [intOf]; omega
        · go_wp2
          go_ret
          exact ⟨rfl, hMj.turn⟩
set_option maxRecDepth 100000 in
set_option maxHeartbeats 2000000 in
theorem plays_long (most n : Int) (a0 : Option Addr) (len cap : Nat) (w0 : World) (hl : 100 < len) :
    Calls Try.prog 3 #[.int .i64 most, .slice a0 len cap, .int .i64 n] w0 fun e w' => e = .returned (.bool true) ∧ Frm.Turn [] w0 w' := by
  have hl' : decide (100 < (len : Int)) = true := by simp; omega
  go_enter Try.func3, Try.ntmps3
  go_wp2_with fail
  refine (first_any w0).mono ?_
  rintro e w1 ⟨rfl, hT1⟩
  have HT1 := Lib.hid hT1
  clear hT1
  go_wp2
  go_ret
  exact ⟨rfl, HT1.out⟩
set_option maxRecDepth 100000 in
set_option maxHeartbeats 4000000 in
theorem plays_arg (most n : Int) (a0 : Option Addr) (len cap : Nat) (w0 : World) (hl : len ≤ 100) (hm : most < 0 ∨ 65535 < most) :
    Calls Try.prog 3 #[.int .i64 most, .slice a0 len cap, .int .i64 n] w0 fun e w' => e = .returned (.bool true) ∧ Frm.Turn [] w0 w' := by
  have hl' : decide (100 < (len : Int)) = false := by simp; omega
  have HM := Lib.hid hm
  by_cases h0 : most < 0
  · have h0' : decide (most < 0) = true := by simpa using h0
    clear hm
    go_enter Try.func3, Try.ntmps3
    go_wp2_with fail
    refine (first_any w0).mono ?_
    rintro e w1 ⟨rfl, hT1⟩
    have HT1 := Lib.hid hT1
    clear hT1
    go_wp2_with fail
    refine (new_no most _ HM.out).mono ?_
    rintro e w2 ⟨rfl, rfl⟩
    go_wp2_with (first
      | (go_at_call 8; (with_reducible refine (take_nil _).mono ?_); rintro e w' ⟨rfl, rfl⟩)
      | (go_at_call 9; (with_reducible refine (give_nil _ _).mono ?_); rintro e w' ⟨rfl, rfl⟩)
      | (go_at_call 10; (with_reducible refine (used_nil _ _).mono ?_); rintro e w' ⟨rfl, rfl⟩)
      | (go_at_call 11; (with_reducible refine (slen_nil _).mono ?_); rintro e w' ⟨rfl, rfl⟩)
      | (go_at_call 12; (with_reducible refine (high_nil _).mono ?_); rintro e w' ⟨rfl, rfl⟩)
      | (go_at_call 13; (with_reducible refine (clone_nil _).mono ?_); rintro e w' ⟨rfl, rfl⟩))
    go_ret
    exact ⟨rfl, HT1.out⟩
  · have h0' : decide (most < 0) = false := by simpa using h0
    have h1' : decide (65535 < most) = true := by simp; omega
    clear hm
    go_enter Try.func3, Try.ntmps3
    go_wp2_with fail
    refine (first_any w0).mono ?_
    rintro e w1 ⟨rfl, hT1⟩
    have HT1 := Lib.hid hT1
    clear hT1
    go_wp2_with fail
    refine (new_no most _ HM.out).mono ?_
    rintro e w2 ⟨rfl, rfl⟩
    go_wp2_with (first
      | (go_at_call 8; (with_reducible refine (take_nil _).mono ?_); rintro e w' ⟨rfl, rfl⟩)
      | (go_at_call 9; (with_reducible refine (give_nil _ _).mono ?_); rintro e w' ⟨rfl, rfl⟩)
      | (go_at_call 10; (with_reducible refine (used_nil _ _).mono ?_); rintro e w' ⟨rfl, rfl⟩)
      | (go_at_call 11; (with_reducible refine (slen_nil _).mono ?_); rintro e w' ⟨rfl, rfl⟩)
      | (go_at_call 12; (with_reducible refine (high_nil _).mono ?_); rintro e w' ⟨rfl, rfl⟩)
      | (go_at_call 13; (with_reducible refine (clone_nil _).mono ?_); rintro e w' ⟨rfl, rfl⟩))
    go_ret
    exact ⟨rfl, HT1.out⟩
theorem plays_any (most : Int) (a0 : Option Addr) (len cap : Nat) (n : Int) (w0 : World) (h : 0 < len → ∃ bl off, a0 = some ⟨bl, off, none⟩ ∧ OpsAt w0 bl off len) (hn : (Lit.int .i64 n).wf = true) :
    Calls Try.prog 3 #[.int .i64 most, .slice a0 len cap, .int .i64 n] w0 fun e w' => e = .returned (.bool true) ∧ Frm.Turn [] w0 w' := by
  by_cases hl : 100 < len
  · exact plays_long most n a0 len cap w0 hl
  · by_cases hm : most < 0 ∨ 65535 < most
    · exact plays_arg most n a0 len cap w0 (by omega) hm
    · obtain ⟨m, rfl⟩ := Int.eq_ofNat_of_zero_le (show 0 ≤ most by omega)
      rcases Nat.eq_zero_or_pos len with rfl | hpos
      · exact plays_none m n a0 cap w0 (by omega) hn
      · obtain ⟨bl, off, rfl, hz⟩ := h hpos
        exact plays_some m n bl off len cap w0 (by omega) (by omega) hz hn
end Lst
end Go.Proofs.Ytnifdbmhpkkgfaa
