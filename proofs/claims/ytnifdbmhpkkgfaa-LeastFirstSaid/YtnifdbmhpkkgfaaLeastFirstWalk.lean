/- The walk of law LeastFirst: it returns true for every most and every list of operations, and leaves what was there as it was. -/
import Derived.Test.YtnifdbmhpkkgfaaLeastHoldsWalk
set_option linter.unusedVariables false
set_option linter.unusedSimpArgs false
namespace Go.Proofs.Ytnifdbmhpkkgfaa
namespace Lst
open Go.RowKit Hp Go.Maps

def FirstRel (w0 : World) (b len : Nat) (most : Nat) (i : Value) (wr : World) : Prop :=
  ∃ (k : Nat) (S : St), k ≤ len ∧ i = .int .i64 (k : Int) ∧ S.most = most ∧ S.high ≤ k ∧ Own w0 wr b S
def InnerRel (w0 : World) (b x : Nat) (S : St) (i : Value) (wr : World) : Prop :=
  ∃ j : Nat, 1 ≤ j ∧ j ≤ x + 1 ∧ i = .int .i64 (j : Int) ∧ Own w0 wr b S

attribute [local go_sem ↓] Go.wp_at_zero Go.wp_at_succ

set_option maxRecDepth 100000 in
set_option maxHeartbeats 4000000 in
theorem lfirst_some (most : Nat) (bl off len cap : Nat) (w0 : World) (hm : most ≤ 65535) (hl : len ≤ 200) (hz : OpsAt w0 bl off len) :
    Calls Try.prog 5 #[.int .i64 (most : Int), .slice (some ⟨bl, off, none⟩) len cap] w0 fun e w' => e = .returned (.bool true) ∧ Frm.Turn [] w0 w' := by
  have hl' : decide (200 < (len : Int)) = false := by simp; omega
  go_enter Try.func5, Try.ntmps5
  go_wp2_with fail
  refine (first_any w0).mono ?_
  rintro e w1 ⟨rfl, hT1⟩
  have HT1 := Lib.hid hT1
  clear hT1
  go_wp2_with fail
  refine (own_new w0 most _ hm HT1.out).mono ?_
  rintro e w2 ⟨b, rfl, ho⟩
  have HO := Lib.hid ho
  clear ho
  go_wp2
  go_loopw [28] (fun i wr => FirstRel w0 b len most i wr) (fun i _ => len - (intOf i).toNat)
  case atStart => exact ⟨0, _, by omega, rfl, rfl, Nat.le_refl _, HO.out⟩
  case round =>
    obtain ⟨k, S, hk, rfl, hmo, hhi, ho⟩ := hrel
    by_cases hlt : k < len
    · have hT := ho.turn
      obtain ⟨x, y, z, hop⟩ := hz k hlt
      obtain ⟨d0, d1, d2, v0, v1, v2⟩ := hop.turn hT
      clear hop hT
      obtain ⟨F, hs, hTT, hF⟩ := ho
      have HA := Lib.hid (OwnF.step (w' := wr.alloc (.cells #[.int .i64 x, .int .i64 y, .int .i64 z] 40)) ⟨hs, hTT, hF⟩ ((Frm.Turn.refl [] wr).alloc _))
      clear hs hTT hF
      have hmo' := Lib.hid hmo
      have HI := Lib.hid hhi
      clear hmo hhi
      cases hev : ((IntKind.u64.wrap x).tmod 3 == 0) with
      | true =>
        cases hu : S.used z with
        | true =>
          have HU := Lib.hid hu
          clear hu
          go_wp2_with (go_at_call 9; (with_reducible refine (ownf_give_yes HA.out z v2 HU.out).mono ?_); rintro e w2 ⟨rfl, S', F', hg, ho2, hT2⟩; have HO2 := Lib.hid ho2; have HG := Lib.hid hg; clear ho2 hg)
          go_roundw
          case rel => exact ⟨k + 1, S', by omega, by go_num, (HG.out.most).trans hmo'.out, by have h1 := HG.out.high; have h2 := HI.out; omega, HO2.out.own⟩
          case measure => simp [intOf]; omega
        | false =>
          have HU := Lib.hid hu
          clear hu
          go_wp2_with (go_at_call 9; (with_reducible refine (ownf_give_no HA.out z v2 HU.out).mono ?_); rintro e w2 ⟨rfl, ho2, hT2⟩; have HO2 := Lib.hid ho2; clear ho2)
          go_roundw
          case rel => exact ⟨k + 1, S, by omega, by go_num, hmo'.out, by have h2 := HI.out; omega, HO2.out.own⟩
          case measure => simp [intOf]; omega
      | false =>
        go_wp2_with fail
        refine (own_take HA.out.own).mono ?_
        rintro e w3 (⟨t, S', rfl, ht, ho⟩ | ⟨rfl, hlen, hfull, ho⟩)
        · have HO' := Lib.hid ho
          have htk : t ≤ k + 1 := by
            have h1 := ht.peak; have h2 := ht.len; have h3 := len_le (S := S); have h4 := ht.high; have h5 := HI.out; omega
          have b1 : decide (300 < (t : Int)) = false := by simp; omega
          have b2 : (t : Int) ≤ 201 := by omega
          have HUS := Lib.hid (show ∀ j : Int, 1 ≤ j → j ≤ t → S'.used j = true from fun j h1 h2 => by
            rw [ht.used]
            by_cases e : j = t
            · simp [e]
            · rw [ht.least j h1 (by omega)]; rfl)
          have HT := Lib.hid ht
          clear ho ht
          go_wp2
          obtain ⟨wo, rfl⟩ : ∃ wo : World, wo = wr := ⟨_, rfl⟩
          go_loopw [11] (fun i wr => InnerRel w0 b t S' i wr) (fun i _ => t + 1 - (intOf i).toNat)
          case atStart => exact ⟨1, by omega, by omega, rfl, HO'.out⟩
          case round =>
            obtain ⟨j, hj1, hj2, rfl, hoj⟩ := hrel
            by_cases hj : j ≤ t
            · have HOJ := Lib.hid hoj
              clear hoj
              have hwf : (Lit.int .i64 (j : Int)).wf = true := wf_small (by omega) (by omega)
              go_wp2_with (go_at_call 10; (with_reducible refine (own_used HOJ.out _ true hwf (HUS.out _ (by omega) (by omega))).mono ?_); rintro e w4 ⟨rfl, ho4⟩; have HO4 := Lib.hid ho4; clear ho4)
              go_roundw
              case rel => exact ⟨j + 1, by omega, by omega, by go_num, HO4.out⟩
              case measure => simp [intOf]; omega
            · have HOJ := Lib.hid hoj
              clear hoj
              go_wp2
              go_roundw
              case rel => exact ⟨k + 1, S', by omega, by go_num, (HT.out.most).trans hmo'.out, by have h1 := HT.out.peak; have h2 := HT.out.len; have h3 := len_le (S := S); have h5 := HI.out; omega, HOJ.out⟩
              case measure => simp [intOf]; omega
        · have HO' := Lib.hid ho
          have HLN := Lib.hid (hlen.trans hmo'.out)
          clear ho hlen hfull
          go_wp2_with (go_at_call 11; (with_reducible refine (own_len HO'.out _ HLN.out).mono ?_); rintro e w5 ⟨rfl, rfl⟩)
          go_ret
          exact ⟨rfl, HO'.out.turn⟩
    · have HS := Lib.hid ho
      clear ho
      go_wp2
      go_ret
      exact ⟨rfl, HS.out.turn⟩

set_option maxRecDepth 100000 in
set_option maxHeartbeats 1000000 in
theorem lfirst_none (most : Nat) (a0 : Option Addr) (cap : Nat) (w0 : World) (hm : most ≤ 65535) :
    Calls Try.prog 5 #[.int .i64 (most : Int), .slice a0 0 cap] w0 fun e w' => e = .returned (.bool true) ∧ Frm.Turn [] w0 w' := by
  go_enter Try.func5, Try.ntmps5
  go_wp2_with fail
  refine (first_any w0).mono ?_
  rintro e w1 ⟨rfl, hT1⟩
  have HT1 := Lib.hid hT1
  clear hT1
  go_wp2_with fail
  refine (own_new w0 most _ hm HT1.out).mono ?_
  rintro e w2 ⟨b, rfl, ho⟩
  have HO := Lib.hid ho
  clear ho
  go_wp2
  refine wp_loop_rounds 1 ?_
  rw [rounds_succ]
  go_wp2
  go_ret
  exact ⟨rfl, HO.out.turn⟩
set_option maxRecDepth 100000 in
set_option maxHeartbeats 1000000 in
theorem lfirst_long (most : Int) (a0 : Option Addr) (len cap : Nat) (w0 : World) (hl : 200 < len) :
    Calls Try.prog 5 #[.int .i64 most, .slice a0 len cap] w0 fun e w' => e = .returned (.bool true) ∧ Frm.Turn [] w0 w' := by
  have hl' : decide (200 < (len : Int)) = true := by simp; omega
  go_enter Try.func5, Try.ntmps5
  go_wp2_with fail
  refine (first_any w0).mono ?_
  rintro e w1 ⟨rfl, hT1⟩
  have HT1 := Lib.hid hT1
  clear hT1
  go_wp2
  go_ret
  exact ⟨rfl, HT1.out⟩
set_option maxRecDepth 100000 in
set_option maxHeartbeats 1000000 in
theorem lfirst_arg (most : Int) (a0 : Option Addr) (len cap : Nat) (w0 : World) (hl : len ≤ 200) (hm : most < 0 ∨ 65535 < most) :
    Calls Try.prog 5 #[.int .i64 most, .slice a0 len cap] w0 fun e w' => e = .returned (.bool true) ∧ Frm.Turn [] w0 w' := by
  have hl' : decide (200 < (len : Int)) = false := by simp; omega
  go_enter Try.func5, Try.ntmps5
  go_wp2_with fail
  refine (first_any w0).mono ?_
  rintro e w1 ⟨rfl, hT1⟩
  have HT1 := Lib.hid hT1
  clear hT1
  go_wp2_with fail
  refine (new_no most _ hm).mono ?_
  rintro e w2 ⟨rfl, rfl⟩
  go_wp2
  go_ret
  exact ⟨rfl, HT1.out⟩
theorem lfirst_any (most : Int) (a0 : Option Addr) (len cap : Nat) (w0 : World) (h : 0 < len → ∃ bl off, a0 = some ⟨bl, off, none⟩ ∧ OpsAt w0 bl off len) :
    Calls Try.prog 5 #[.int .i64 most, .slice a0 len cap] w0 fun e w' => e = .returned (.bool true) ∧ Frm.Turn [] w0 w' := by
  by_cases hl : 200 < len
  · exact lfirst_long most a0 len cap w0 hl
  · by_cases hm : most < 0 ∨ 65535 < most
    · exact lfirst_arg most a0 len cap w0 (by omega) hm
    · obtain ⟨m, rfl⟩ := Int.eq_ofNat_of_zero_le (show 0 ≤ most by omega)
      rcases Nat.eq_zero_or_pos len with rfl | hpos
      · exact lfirst_none m a0 cap w0 (by omega)
      · obtain ⟨bl, off, rfl, hz⟩ := h hpos
        exact lfirst_some m bl off len cap w0 (by omega) (by omega) hz
end Lst
end Go.Proofs.Ytnifdbmhpkkgfaa
