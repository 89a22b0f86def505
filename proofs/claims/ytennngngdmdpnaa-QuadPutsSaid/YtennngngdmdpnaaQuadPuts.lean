/- Law QuadPuts, walked. -/
import Derived.Test.YtennngngdmdpnaaQuadFirst
import Derived.Deep.RegionHeld3
import Derived.Deep.QuietTactic
import Derived.BigQuiet
set_option linter.unusedVariables false
set_option linter.unusedSimpArgs false
namespace Go.Proofs.Ytennngngdmdpnaa
namespace Qud
open Go.RowKit Go.Maps Arn

theorem with_parts (x0 x1 x2 x3 d u : Int) (h0 : 0 ≤ d) (h3 : d ≤ 3) : ∃ y0 y1 y2 y3, withOf [x0, x1, x2, x3] d u = [y0, y1, y2, y3] ∧ ∀ i : Nat, i < 4 → [y0, y1, y2, y3].getD i 0 = if (i : Int) = d then u else [x0, x1, x2, x3].getD i 0 := by
  have hc : d = 0 ∨ d = 1 ∨ d = 2 ∨ d = 3 := by omega
  have hs : ∀ (P : Nat → Prop), P 0 → P 1 → P 2 → P 3 → ∀ i, i < 4 → P i := fun P a b c d i hi => by
    have : i = 0 ∨ i = 1 ∨ i = 2 ∨ i = 3 := by omega
    rcases this with rfl | rfl | rfl | rfl <;> assumption
  rcases hc with rfl | rfl | rfl | rfl
  · exact ⟨u, x1, x2, x3, rfl, hs _ (by simp) (by simp) (by simp) (by simp)⟩
  · exact ⟨x0, u, x2, x3, rfl, hs _ (by simp) (by simp) (by simp) (by simp)⟩
  · exact ⟨x0, x1, u, x3, rfl, hs _ (by simp) (by simp) (by simp) (by simp)⟩
  · exact ⟨x0, x1, x2, u, rfl, hs _ (by simp) (by simp) (by simp) (by simp)⟩
theorem gre_parts (y0 y1 y2 y3 : Int) : (greOf [y0, y1, y2, y3] 3 = (0, false) ∧ (y0 == 0 && y1 == 0 && y2 == 0 && y3 == 0) = true) ∨
    ∃ k : Nat, k < 4 ∧ greOf [y0, y1, y2, y3] 3 = ((k : Int), true) ∧ [y0, y1, y2, y3].getD k 0 ≠ 0 ∧ (∀ j, k < j → j < 4 → [y0, y1, y2, y3].getD j 0 = 0) ∧ (y0 == 0 && y1 == 0 && y2 == 0 && y3 == 0) = false := by
  have e : greOf [y0, y1, y2, y3] 3 = greTo [y0, y1, y2, y3] 4 := rfl
  rw [e]
  simp only [greTo]
  by_cases h3 : y3 = 0
  · by_cases h2 : y2 = 0
    · by_cases h1 : y1 = 0
      · by_cases h0 : y0 = 0
        · left; simp [h0, h1, h2, h3]
        · right
          refine ⟨0, by omega, by simp [h0, h1, h2, h3], by simpa using h0, fun j hj hj4 => ?_, by simp [h0]⟩
          have : j = 1 ∨ j = 2 ∨ j = 3 := by omega
          rcases this with rfl | rfl | rfl <;> simp [h1, h2, h3]
      · right
        refine ⟨1, by omega, by simp [h1, h2, h3], by simpa using h1, fun j hj hj4 => ?_, by simp [h1]⟩
        have : j = 2 ∨ j = 3 := by omega
        rcases this with rfl | rfl <;> simp [h2, h3]
    · right
      refine ⟨2, by omega, by simp [h2, h3], by simpa using h2, fun j hj hj4 => ?_, by simp [h2]⟩
      obtain rfl : j = 3 := by omega
      simp [h3]
  · right
    exact ⟨3, by omega, by simp [h3], by simpa using h3, fun j hj hj4 => by omega, by simp [h3]⟩
theorem cells_at {w : World} {b : Nat} {x0 x1 x2 x3 : Int} {t : TypeId} (h : w.heap[b]? = some (.cells #[.int .u64 x0, .int .u64 x1, .int .u64 x2, .int .u64 x3] t (0, 0))) (i : Nat) (hi : i < 4) : w.cell? ⟨b, i, none⟩ = some (.int .u64 ([x0, x1, x2, x3].getD i 0)) := by
  have : i = 0 ∨ i = 1 ∨ i = 2 ∨ i = 3 := by omega
  rcases this with rfl | rfl | rfl | rfl <;> simp [World.cell?, h]
theorem digit_in (k l : Int) (h0 : 0 ≤ k) (h1 : k ≤ 255) (h2 : 0 ≤ l) (h3 : l ≤ 3) : 0 ≤ digitOf k l ∧ digitOf k l ≤ 3 := by
  have hc : l = 0 ∨ l = 1 ∨ l = 2 ∨ l = 3 := by omega
  unfold digitOf
  rw [if_neg (by omega)]
  rcases hc with rfl | rfl | rfl | rfl <;> simp <;> omega
def kTo (k : Int) : Nat → Int
  | 0 => 0
  | j + 1 => 4 * kTo k j + digitOf k j
theorem dgs (k : Int) (h0 : 0 ≤ k) (h1 : k ≤ 255) : digitOf k 0 = k / 64 % 4 ∧ digitOf k 1 = k / 16 % 4 ∧ digitOf k 2 = k / 4 % 4 ∧ digitOf k 3 = k % 4 := by
  refine ⟨?_, ?_, ?_, ?_⟩
  · unfold digitOf; rw [if_neg (by omega), if_pos rfl]
  · unfold digitOf; rw [if_neg (by omega), if_neg (by omega), if_pos rfl]
  · unfold digitOf; rw [if_neg (by omega), if_neg (by omega), if_neg (by omega), if_pos rfl]
  · unfold digitOf; rw [if_neg (by omega), if_neg (by omega), if_neg (by omega), if_neg (by omega)]
theorem k_all (k : Int) (h0 : 0 ≤ k) (h1 : k ≤ 255) : kTo k 4 = k := by
  have e : kTo k 4 = 4 * (4 * (4 * (4 * 0 + digitOf k 0) + digitOf k 1) + digitOf k 2) + digitOf k 3 := rfl
  obtain ⟨d0, d1, d2, d3⟩ := dgs k h0 h1
  rw [e, d0, d1, d2, d3]
  omega
theorem k_in (k : Int) (h0 : 0 ≤ k) (h1 : k ≤ 255) (j : Nat) (hj : j ≤ 4) : 0 ≤ kTo k j ∧ kTo k j ≤ 100000 := by
  obtain ⟨d0, d1, d2, d3⟩ := dgs k h0 h1
  have e0 : kTo k 0 = 0 := rfl
  have e1 : kTo k 1 = 4 * 0 + digitOf k 0 := rfl
  have e2 : kTo k 2 = 4 * (4 * 0 + digitOf k 0) + digitOf k 1 := rfl
  have e3 : kTo k 3 = 4 * (4 * (4 * 0 + digitOf k 0) + digitOf k 1) + digitOf k 2 := rfl
  have e4 := k_all k h0 h1
  have : j = 0 ∨ j = 1 ∨ j = 2 ∨ j = 3 ∨ j = 4 := by omega
  rcases this with rfl | rfl | rfl | rfl | rfl
  · rw [e0]; omega
  · rw [e1, d0]; omega
  · rw [e2, d0, d1]; omega
  · rw [e3, d0, d1, d2]; omega
  · rw [e4]; omega
set_option maxRecDepth 100000 in
set_option maxHeartbeats 8000000 in
theorem puts_any (x0 x1 x2 x3 key u : Int) (hk0 : 0 ≤ key) (hk1 : key ≤ 255) (w : World) :
    Calls Try.prog 5 #[.agg #[.int .u64 x0, .int .u64 x1, .int .u64 x2, .int .u64 x3], .int .u8 key, .int .u64 u] w fun e w' => e = .returned (.bool true) ∧ Frm.Turn [] w w' := by
  obtain ⟨Wa, HWa⟩ : ∃ Wa, Hid (Wa = w.alloc (.cells #[.int .u64 x0, .int .u64 x1, .int .u64 x2, .int .u64 x3] 24)) := ⟨_, Lib.hid rfl⟩
  have hTa : Frm.Turn [] w Wa := by rw [HWa.out]; exact (Frm.Turn.refl [] w).alloc _
  have hba : Wa.heap[w.heap.size]? = some (.cells #[.int .u64 x0, .int .u64 x1, .int .u64 x2, .int .u64 x3] 24 (0, 0)) := by rw [HWa.out]; exact heap_new w _
  have HF := Lib.hid (first_any Wa)
  have hkw : (IntKind.i64.wrap key) = key := by unfold IntKind.wrap; simp [IntKind.signed, IntKind.bits]; omega
  go_enter Try.func5, Try.ntmps5
  go_upto_region 1 with fail
  rw [← HWa.out]
  obtain ⟨b3, HB3⟩ : ∃ b3, Hid (b3 = w.heap.size) := ⟨_, Lib.hid rfl⟩
  rw [← HB3.out] at hba ⊢
  have HTa := Lib.hid hTa
  have HBa := Lib.hid hba
  clear hTa hba
  go_upto_region 3 with (go_at_call 7; (with_reducible refine (HF.out).mono ?_); rintro e w1 ⟨rfl, hT⟩; have HT1 := Lib.hid (HTa.out.trans hT (by simp)); have HB1 := Lib.hid (hT.keep HBa.out (by simp)); clear hT)
  go_wp2
  go_loopw [18] (fun i wr => ∃ j : Nat, j ≤ 4 ∧ i = .int .i64 j ∧ Frm.Turn [] w1 wr) (fun i _ => 4 - (intOf i).toNat)
  case atStart => exact ⟨0, by omega, rfl, Frm.Turn.refl _ _⟩
  case round =>
    obtain ⟨j, hj, rfl, hTr⟩ := hrel
    by_cases hlt : j < 4
    · have hdi := digit_in key j hk0 hk1 (by omega) (by omega)
      have HD : Hid (∀ W, Calls Try.prog 9 #[.int .i64 key, .int .i64 (j : Int)] W fun e w' => e = .returned (.int .i64 (digitOf key j)) ∧ W = w') := Lib.hid fun W => digit_any key j (by unfold I64; omega) (by unfold I64; omega) W
      obtain ⟨d, hd⟩ : ∃ d, d = digitOf key j := ⟨_, rfl⟩
      rw [← hd] at hdi HD
      obtain ⟨d0, d3⟩ := hdi
      obtain ⟨y0, y1, y2, y3, hy, hyi⟩ := with_parts x0 x1 x2 x3 d u d0 d3
      have hw : ∀ W, Calls Try.prog 11 #[.agg #[.int .u64 x0, .int .u64 x1, .int .u64 x2, .int .u64 x3], .int .i64 d, .int .u64 u] W fun e w' => e = .returned (.agg #[.int .u64 y0, .int .u64 y1, .int .u64 y2, .int .u64 y3]) ∧ Frm.Turn [] W w' := fun W => by
        have h := with_any x0 x1 x2 x3 d u (by unfold I64; omega) W
        rw [hy] at h
        exact h
      have HW := Lib.hid hw
      have HYI := Lib.hid hyi
      have HTr := Lib.hid hTr
      have HBr := Lib.hid (hTr.keep HB1.out (by simp))
      obtain ⟨a0, a1, a2, a3⟩ := cells4 HBr.out
      clear hw hyi hy hd hTr
      go_upto_region 10 with (first
        | (go_at_call 9; (with_reducible refine (HD.out _).mono ?_); rintro e w2 ⟨rfl, rfl⟩)
        | (go_at_call 11; (with_reducible refine (HW.out _).mono ?_); rintro e w3 ⟨rfl, hT3⟩; have HT3 := Lib.hid hT3; clear hT3))
      obtain ⟨W4, HW4⟩ : ∃ W4, Hid (W4 = w3.alloc (.cells #[.int .u64 y0, .int .u64 y1, .int .u64 y2, .int .u64 y3] 24)) := ⟨_, Lib.hid rfl⟩
      rw [← HW4.out]
      obtain ⟨b9, HB9⟩ : ∃ b9, Hid (b9 = w3.heap.size) := ⟨_, Lib.hid rfl⟩
      rw [← HB9.out]
      have hb9 : W4.heap[b9]? = some (.cells #[.int .u64 y0, .int .u64 y1, .int .u64 y2, .int .u64 y3] 24 (0, 0)) := by rw [HW4.out, HB9.out]; exact heap_new w3 _
      have hT4 : Frm.Turn [] wr W4 := by rw [HW4.out]; exact HT3.out.trans ((Frm.Turn.refl [] w3).alloc _) (by simp)
      have HB9 := Lib.hid hb9
      have HT4 := Lib.hid hT4
      have HB3 := Lib.hid (hT4.keep HBr.out (by simp))
      clear a0 a1 a2 a3 hb9 hT4 HW4 HW HD
      go_wp2
      go_loopw [35] (fun i wr => ∃ q : Nat, q ≤ 4 ∧ i = .int .i64 q ∧ Frm.Turn [] W4 wr) (fun i _ => 4 - (intOf i).toNat)
      case atStart => exact ⟨0, by omega, rfl, Frm.Turn.refl _ _⟩
      case round =>
        obtain ⟨q, hq, rfl, hTq⟩ := hrel
        by_cases hql : q < 4
        · have cm := cells_at (w := wr.drew) (show _ = _ from hTq.keep HB9.out (by simp)) q hql
          have cn := cells_at (w := wr.drew) (show _ = _ from hTq.keep HB3.out (by simp)) q hql
          have cm' := cells_at (hTq.keep HB9.out (by simp)) q hql
          have cn' := cells_at (hTq.keep HB3.out (by simp)) q hql
          have hyq := HYI.out q hql
          have HTq := Lib.hid hTq
          clear hTq
          by_cases hqd : (q : Int) = d
          · rw [if_pos hqd] at hyq
            rw [hyq] at cm cm'
            generalize [x0, x1, x2, x3].getD q 0 = xq at cn cn'
            subst hqd
            go_upto_region 13 with fail
            go_quiet (fail)
            go_wp2
            go_roundw
            case rel => exact ⟨q + 1, by omega, by go_num, HTq.out.drewN _⟩
            case measure => simp [intOf]; omega
          · rw [if_neg hqd] at hyq
            rw [hyq] at cm cm'
            generalize [x0, x1, x2, x3].getD q 0 = xq at cn cm cn' cm'
            have hne : ((q : Int) == d) = false := by simpa using hqd
            go_upto_region 13 with fail
            go_quiet (fail)
            go_wp2
            go_roundw
            case rel => exact ⟨q + 1, by omega, by go_num, HTq.out.drewN _⟩
            case measure => simp [intOf]; omega
        · obtain rfl : q = 4 := by omega
          have HT6 := Lib.hid (HT4.out.trans hTq (by simp))
          have HC9 := Lib.hid (hTq.keep HB9.out (by simp))
          obtain ⟨a0, a1, a2, a3⟩ := cells4 HC9.out
          have hgr := great_any y0 y1 y2 y3 3 (by unfold I64; omega) wr
          simp only [nodeV, u64s, List.map_cons, List.map_nil] at hgr
          clear hTq
          rcases gre_parts y0 y1 y2 y3 with ⟨hg, hz⟩ | ⟨k, hk, hg, hyk, hab, hz⟩
          · rw [hg] at hgr
            have HG := Lib.hid hgr
            have heq := fun W => equal4 W y0 y1 y2 y3 0 0 0 0 true hz
            clear hgr
            go_upto_region 17 with (go_at_call 8; (with_reducible refine (HG.out).mono ?_); rintro e w7 ⟨rfl, hT7⟩; have HT7 := Lib.hid hT7; clear hT7)
            clear a0 a1 a2 a3
            obtain ⟨a0, a1, a2, a3⟩ := cells4 (HT7.out.keep HC9.out (by simp))
            have HT8 := Lib.hid (HT6.out.trans HT7.out (by simp))
            go_wp2
            go_loopw [13] (fun i wr => i = .int .i64 1 ∧ Frm.Turn [] w7 wr) (fun i _ => 0)
            case atStart => exact ⟨rfl, Frm.Turn.refl _ _⟩
            case round =>
              obtain ⟨rfl, hT9⟩ := hrel
              have HT9 := Lib.hid hT9
              clear hT9
              go_wp2
              refine ⟨⟨j + 1, by omega, by go_num, (HTr.out.trans HT8.out (by simp)).trans HT9.out (by simp)⟩, ?_⟩
              simp [intOf]; omega
          · rw [hg] at hgr
            have HG := Lib.hid hgr
            have heq := fun W => equal4 W y0 y1 y2 y3 0 0 0 0 false hz
            have HAB := Lib.hid hab
            clear hgr hab
            go_upto_region 17 with (go_at_call 8; (with_reducible refine (HG.out).mono ?_); rintro e w7 ⟨rfl, hT7⟩; have HT7 := Lib.hid hT7; clear hT7)
            clear a0 a1 a2 a3
            have h9 := HT7.out.keep HC9.out (by simp)
            obtain ⟨a0, a1, a2, a3⟩ := cells4 h9
            have ck := cells_at h9 k hk
            have HC7 := Lib.hid h9
            have HT8 := Lib.hid (HT6.out.trans HT7.out (by simp))
            generalize hyq : [y0, y1, y2, y3].getD k 0 = yk at hyk ck
            clear hyq h9
            have e1 : (yk == 0) = false := by simpa using hyk
            have e2 : ¬ (3 < (k : Int)) := by omega
            have e3 : ¬ ((k : Int) < 0) := by omega
            go_wp2
            go_loopw [13] (fun i wr => ∃ q : Nat, k < q ∧ q ≤ 4 ∧ i = .int .i64 q ∧ Frm.Turn [] w7 wr) (fun i _ => 4 - (intOf i).toNat)
            case atStart => exact ⟨k + 1, by omega, by omega, by go_num, Frm.Turn.refl _ _⟩
            case round =>
              obtain ⟨q, hkq, hq4, rfl, hT9⟩ := hrel
              have HT9 := Lib.hid hT9
              by_cases hq : q < 4
              · have cq := cells_at (hT9.keep HC7.out (by simp)) q hq
                rw [HAB.out q hkq hq] at cq
                clear hT9 a0 a1 a2 a3 ck
                go_wp2
                go_roundw
                case rel => exact ⟨q + 1, by omega, by omega, by go_num, HT9.out⟩
                case measure => simp [intOf]; omega
              · obtain rfl : q = 4 := by omega
                clear hT9 a0 a1 a2 a3 ck
                go_wp2
                refine ⟨⟨j + 1, by omega, by go_num, (HTr.out.trans HT8.out (by simp)).trans HT9.out (by simp)⟩, ?_⟩
                simp [intOf]; omega
    · have hj4 : ¬ (j : Int) < 4 := by omega
      have HTr := Lib.hid hTr
      have HDG : Hid (∀ (i : Nat) W, i < 4 → Calls Try.prog 9 #[.int .i64 key, .int .i64 (i : Int)] W fun e w' => e = .returned (.int .i64 (digitOf key i)) ∧ W = w') := Lib.hid fun i W hi => digit_any key i (by unfold I64; omega) (by unfold I64; omega) W
      have HK := Lib.hid (k_in key hk0 hk1)
      have HKA := Lib.hid (k_all key hk0 hk1)
      have HDI : Hid (∀ i : Nat, i < 4 → 0 ≤ digitOf key i ∧ digitOf key i ≤ 3) := Lib.hid fun i hi => digit_in key i hk0 hk1 (by omega) (by omega)
      clear hTr
      go_wp2
      go_loopw [14, 104] (fun s i wr => ∃ q : Nat, q ≤ 4 ∧ i = .int .i64 q ∧ s = .int .i64 (kTo key q) ∧ Frm.Turn [] w1 wr) (fun _ i _ => 4 - (intOf i).toNat)
      case atStart => exact ⟨0, by omega, rfl, rfl, HTr.out⟩
      case round =>
        obtain ⟨q, hq, rfl, rfl, hT9⟩ := hrel
        have HT9 := Lib.hid hT9
        clear hT9
        obtain ⟨s0, s1⟩ := HK.out q hq
        by_cases hq4 : q < 4
        · have HKN : Hid (kTo key (q + 1) = 4 * kTo key q + digitOf key q) := Lib.hid rfl
          have HDQ := Lib.hid (fun W => HDG.out q W hq4)
          obtain ⟨g0, g1⟩ := HDI.out q hq4
          generalize kTo key q = s at s0 s1 HKN ⊢
          generalize digitOf key q = dg at g0 g1 HKN HDQ
          go_wp2_with (go_at_call 9; (with_reducible refine (HDQ.out _).mono ?_); rintro e w10 ⟨rfl, rfl⟩)
          refine ⟨⟨q + 1, by omega, by go_num, by rw [HKN.out], HT9.out⟩, ?_⟩
          simp [intOf]; omega
        · obtain rfl : q = 4 := by omega
          rw [HKA.out]
          go_wp2
          go_ret
          exact ⟨rfl, HT1.out.trans HT9.out (by simp)⟩
end Qud
end Go.Proofs.Ytennngngdmdpnaa
