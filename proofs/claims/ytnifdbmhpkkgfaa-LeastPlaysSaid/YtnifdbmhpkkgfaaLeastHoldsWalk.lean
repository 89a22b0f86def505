/- The walk of law LeastHolds: it returns true for every most and every list of operations, and leaves what was there as it was. -/
import Derived.Test.YtnifdbmhpkkgfaaLeastOwn
import Derived.Deep.RegionHeld3
import Derived.Deep.DrawnRows
set_option linter.unusedVariables false
set_option linter.unusedSimpArgs false
namespace Go.Proofs.Ytnifdbmhpkkgfaa
namespace Lst
open Go.RowKit Hp Go.Maps

/-- A list of operations as it lies in memory: three numbers each. -/
structure OpAt (w : World) (bl o : Nat) (x y z : Int) : Prop where
  c0 : w.cell? ⟨bl, o, none⟩ = some (.int .i64 x)
  c1 : w.cell? ⟨bl, o + 1, none⟩ = some (.int .i64 y)
  c2 : w.cell? ⟨bl, o + 2, none⟩ = some (.int .i64 z)
  w0 : (Lit.int .i64 x).wf = true
  w1 : (Lit.int .i64 y).wf = true
  w2 : (Lit.int .i64 z).wf = true
theorem OpAt.turn {w w' : World} {bl o : Nat} {x y z : Int} (h : OpAt w bl o x y z) (ht : Frm.Turn [] w w') : OpAt w' bl o x y z :=
  ⟨ht.cell h.c0 (by simp), ht.cell h.c1 (by simp), ht.cell h.c2 (by simp), h.w0, h.w1, h.w2⟩
def OpsAt (w : World) (bl off len : Nat) : Prop := ∀ i, i < len → ∃ x y z, OpAt w bl (off + i * 3) x y z

theorem max_int {a b c : Nat} (h : c = max a b) : Value.int .i64 (if a < b then (b : Int) else (a : Int)) = .int .i64 (c : Int) := by
  subst h; congr 1; split <;> omega
def HoldsRel (w0 : World) (b len : Nat) (most : Nat) (peak i : Value) (wr : World) : Prop :=
  ∃ (k : Nat) (S : St), k ≤ len ∧ i = .int .i64 (k : Int) ∧ peak = .int .i64 (S.high : Int) ∧ S.most = most ∧ Own w0 wr b S

attribute [local go_sem ↓] Go.wp_at_zero Go.wp_at_succ

set_option maxRecDepth 100000 in
set_option maxHeartbeats 4000000 in
theorem holds_some (most : Nat) (bl off len cap : Nat) (w0 : World) (hm : most ≤ 65535) (hl : len ≤ 200) (hz : OpsAt w0 bl off len) :
    Calls Try.prog 4 #[.int .i64 (most : Int), .slice (some ⟨bl, off, none⟩) len cap] w0 fun e w' => e = .returned (.bool true) ∧ Frm.Turn [] w0 w' := by
  have hl' : decide (200 < (len : Int)) = false := by simp; omega
  go_enter Try.func4, Try.ntmps4
  go_wp2_with fail
  refine (first_any w0).mono ?_
  rintro e w1 ⟨rfl, hT1⟩
  have HT1 := Lib.hid hT1
  clear hT1
  go_wp2_with fail
  refine (own_new w0 most _ hm HT1.out).mono ?_
  rintro e w2 ⟨b, rfl, ho⟩
  have HO := Lib.hid ho
  clear ho
  go_wp2
  go_loopw [7, 28] (fun p i wr => HoldsRel w0 b len most p i wr) (fun _ i _ => len - (intOf i).toNat)
  case atStart => exact ⟨0, _, by omega, rfl, rfl, rfl, HO.out⟩
  case round =>
    obtain ⟨k, S, hk, rfl, rfl, hmo, ho⟩ := hrel
    by_cases hlt : k < len
    · have hT := ho.turn
      obtain ⟨x, y, z, hop⟩ := hz k hlt
      obtain ⟨d0, d1, d2, v0, v1, v2⟩ := hop.turn hT
      clear hop hT
      obtain ⟨F, hs, hTT, hF⟩ := ho
      have hq : wr.heap.size ∉ F := fun hc => by have := hs.lt _ hc; omega
      have HQ := Lib.hid hq
      have HA := Lib.hid (OwnF.step (w' := wr.alloc (.cells #[.int .i64 x, .int .i64 y, .int .i64 z] 40)) ⟨hs, hTT, hF⟩ ((Frm.Turn.refl [] wr).alloc _))
      clear hs hTT hF hq
      have hmo' := Lib.hid hmo
      clear hmo
      cases hev : ((IntKind.u64.wrap x).tmod 2 == 0) with
      | true =>
        go_wp2_with fail
        refine (own_take HA.out.own).mono ?_
        rintro e w3 (⟨t, S', rfl, ht, ho⟩ | ⟨rfl, hlen, hfull, ho⟩)
        · have HO := Lib.hid ho
          have b1 : decide ((t : Int) < 1) = false := by have := ht.lo; simp; omega
          have b2 : decide (most < t) = false := by have := ht.hi; have := hmo'.out; simp; omega
          have hwf : (Lit.int .i64 (t : Int)).wf = true := wf_small (by omega) (by have := ht.hi; have := hmo'.out; omega)
          have HUS := Lib.hid (show S'.used t = true by rw [ht.used]; simp)
          have HT := Lib.hid ht
          clear ho ht
          go_wp2_with (first
            | (go_at_call 10; (with_reducible refine (own_used HO.out _ true hwf HUS.out).mono ?_); rintro e w4 ⟨rfl, ho4⟩; have HO4 := Lib.hid ho4; clear ho4)
            | (go_at_call 11; (with_reducible refine (own_len HO4.out _ rfl).mono ?_); rintro e w5 ⟨rfl, rfl⟩))
          go_roundw
          case rel =>
            have h1 := HT.out.peak
            exact ⟨k + 1, S', by omega, by go_num, max_int (by omega), (HT.out.most).trans hmo'.out, HO4.out⟩
          case measure => simp [intOf]; omega
        · have HO := Lib.hid ho
          have HLN := Lib.hid (hlen.trans hmo'.out)
          clear ho hlen hfull
          go_wp2_with (first
            | (go_at_call 11; (with_reducible refine (own_len HO.out _ HLN.out).mono ?_); rintro e w5 ⟨rfl, rfl⟩))
          go_roundw
          case rel =>
            have h1 := HO.out.ok.high
            have h2 := len_le (S := S)
            have h3 := hmo'.out
            have h4 := HLN.out
            exact ⟨k + 1, S, by omega, by go_num, max_int (by omega), h3, HO.out⟩
          case measure => simp [intOf]; omega
      | false =>
        cases hu : S.used z with
        | true =>
          have HU := Lib.hid hu
          clear hu
          go_wp2_with fail
          go_region_held3 (fun w' => w'.cell? ⟨wr.heap.size, 2, none⟩ = some (.int .i64 z))
            (first | assumption | go_keep)
            (first
              | (go_at_call 10; (with_reducible refine (ownf_used HO2.out z false v2 HU2.out).mono ?_); rintro e w3 ⟨rfl, ho3, hT3⟩; have HO3 := Lib.hid ho3; have HT3 := Lib.hid hT3; have k3 := hT3.cell k2 (by simp); clear ho3 hT3)
              | (go_at_call 10; (with_reducible refine (ownf_used (HA.out.step ((Frm.Turn.refl [] _).drew)) z true v2 HU.out).mono ?_); rintro e w1 ⟨rfl, ho1, hT1⟩; have HO1 := Lib.hid ho1; have HT1 := Lib.hid hT1; have k1 := hT1.cell (World.cell?_alloc_new wr #[.int .i64 x, .int .i64 y, .int .i64 z] 40 2) (by simp); clear ho1 hT1)
              | (go_at_call 9; (with_reducible refine (ownf_give_yes HO1.out z v2 HU.out).mono ?_); rintro e w2 ⟨rfl, S', F', hg, ho2, hT2⟩; have HO2 := Lib.hid ho2; have HG := Lib.hid hg; have HU2 := Lib.hid (show S'.used z = false by rw [hg.used]; simp); have k2 := hT2.cell k1 HQ.out; clear ho2 hg hT2))
          go_wp2_with (go_at_call 11; (with_reducible refine (own_len HO3.out.own _ rfl).mono ?_); rintro e w4 ⟨rfl, rfl⟩)
          go_roundw
          case rel =>
            have h1 := HG.out.high
            have h2 := len_le (S := S')
            exact ⟨k + 1, S', by omega, by go_num, max_int (by omega), (HG.out.most).trans hmo'.out, HO3.out.own⟩
          case measure => simp [intOf]; omega
        | false =>
          have HU := Lib.hid hu
          clear hu
          go_wp2_with fail
          go_region_held3 (fun w' => w'.cell? ⟨wr.heap.size, 2, none⟩ = some (.int .i64 z))
            (first | assumption | go_keep)
            (first
              | (go_at_call 10; (with_reducible refine (ownf_used HO2.out z false v2 HU.out).mono ?_); rintro e w3 ⟨rfl, ho3, hT3⟩; have HO3 := Lib.hid ho3; have HT3 := Lib.hid hT3; have k3 := hT3.cell k2 (by simp); clear ho3 hT3)
              | (go_at_call 10; (with_reducible refine (ownf_used (HA.out.step ((Frm.Turn.refl [] _).drew)) z false v2 HU.out).mono ?_); rintro e w1 ⟨rfl, ho1, hT1⟩; have HO1 := Lib.hid ho1; have HT1 := Lib.hid hT1; have k1 := hT1.cell (World.cell?_alloc_new wr #[.int .i64 x, .int .i64 y, .int .i64 z] 40 2) (by simp); clear ho1 hT1)
              | (go_at_call 9; (with_reducible refine (ownf_give_no HO1.out z v2 HU.out).mono ?_); rintro e w2 ⟨rfl, ho2, hT2⟩; have HO2 := Lib.hid ho2; have k2 := hT2.cell k1 (by simp); clear ho2 hT2))
          go_wp2_with (go_at_call 11; (with_reducible refine (own_len HO3.out.own _ rfl).mono ?_); rintro e w4 ⟨rfl, rfl⟩)
          go_roundw
          case rel =>
            have h2 := len_le (S := S)
            exact ⟨k + 1, S, by omega, by go_num, max_int (by omega), hmo'.out, HO3.out.own⟩
          case measure => simp [intOf]; omega
    · have HS := Lib.hid ho
      clear ho
      go_wp2_with (go_at_call 12; (with_reducible refine (own_high HS.out _ rfl).mono ?_); rintro e w4 ⟨rfl, rfl⟩)
      go_ret
      exact ⟨by simp, HS.out.turn⟩

set_option maxRecDepth 100000 in
set_option maxHeartbeats 1000000 in
theorem holds_none (most : Nat) (a0 : Option Addr) (cap : Nat) (w0 : World) (hm : most ≤ 65535) :
    Calls Try.prog 4 #[.int .i64 (most : Int), .slice a0 0 cap] w0 fun e w' => e = .returned (.bool true) ∧ Frm.Turn [] w0 w' := by
  go_enter Try.func4, Try.ntmps4
  go_wp2_with fail
  refine (first_any w0).mono ?_
  rintro e w1 ⟨rfl, hT1⟩
  have HT1 := Lib.hid hT1
  clear hT1
  go_wp2_with fail
  refine (own_new w0 most _ hm HT1.out).mono ?_
  rintro e w2 ⟨b, rfl, ho⟩
  have HO := Lib.hid ho
  clear ho
  go_wp2
  refine wp_loop_rounds 1 ?_
  rw [rounds_succ]
  go_wp2_with (go_at_call 12; (with_reducible refine (own_high HO.out 0 rfl).mono ?_); rintro e w4 ⟨rfl, rfl⟩)
  go_ret
  exact ⟨rfl, HO.out.turn⟩
set_option maxRecDepth 100000 in
set_option maxHeartbeats 1000000 in
theorem holds_long (most : Int) (a0 : Option Addr) (len cap : Nat) (w0 : World) (hl : 200 < len) :
    Calls Try.prog 4 #[.int .i64 most, .slice a0 len cap] w0 fun e w' => e = .returned (.bool true) ∧ Frm.Turn [] w0 w' := by
  have hl' : decide (200 < (len : Int)) = true := by simp; omega
  go_enter Try.func4, Try.ntmps4
  go_wp2_with fail
  refine (first_any w0).mono ?_
  rintro e w1 ⟨rfl, hT1⟩
  have HT1 := Lib.hid hT1
  clear hT1
  go_wp2
  go_ret
  exact ⟨rfl, HT1.out⟩
set_option maxRecDepth 100000 in
set_option maxHeartbeats 1000000 in
theorem holds_arg (most : Int) (a0 : Option Addr) (len cap : Nat) (w0 : World) (hl : len ≤ 200) (hm : most < 0 ∨ 65535 < most) :
    Calls Try.prog 4 #[.int .i64 most, .slice a0 len cap] w0 fun e w' => e = .returned (.bool true) ∧ Frm.Turn [] w0 w' := by
  have hl' : decide (200 < (len : Int)) = false := by simp; omega
  go_enter Try.func4, Try.ntmps4
  go_wp2_with fail
  refine (first_any w0).mono ?_
  rintro e w1 ⟨rfl, hT1⟩
  have HT1 := Lib.hid hT1
  clear hT1
  go_wp2_with fail
  refine (new_no most _ hm).mono ?_
  rintro e w2 ⟨rfl, rfl⟩
  go_wp2
  go_ret
  exact ⟨rfl, HT1.out⟩
theorem holds_any (most : Int) (a0 : Option Addr) (len cap : Nat) (w0 : World) (h : 0 < len → ∃ bl off, a0 = some ⟨bl, off, none⟩ ∧ OpsAt w0 bl off len) :
    Calls Try.prog 4 #[.int .i64 most, .slice a0 len cap] w0 fun e w' => e = .returned (.bool true) ∧ Frm.Turn [] w0 w' := by
  by_cases hl : 200 < len
  · exact holds_long most a0 len cap w0 hl
  · by_cases hm : most < 0 ∨ 65535 < most
    · exact holds_arg most a0 len cap w0 (by omega) hm
    · obtain ⟨m, rfl⟩ := Int.eq_ofNat_of_zero_le (show 0 ≤ most by omega)
      rcases Nat.eq_zero_or_pos len with rfl | hpos
      · exact holds_none m a0 cap w0 (by omega)
      · obtain ⟨bl, off, rfl, hz⟩ := h hpos
        exact holds_some m bl off len cap w0 (by omega) (by omega) hz
end Lst
end Go.Proofs.Ytnifdbmhpkkgfaa
