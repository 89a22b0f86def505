/- Law QuadTells, walked. -/
import Derived.Test.YtennngngdmdpnaaQuadFirst
import Derived.Deep.RegionHeld3
set_option linter.unusedVariables false
set_option linter.unusedSimpArgs false
namespace Go.Proofs.Ytennngngdmdpnaa
namespace Qud
open Go.RowKit Go.Maps Arn

/-- The last digit up to most whose word isn't 0, looked for from below. -/
def lastTo (l : List Int) (most : Int) : Nat → Int × Bool
  | 0 => (0, false)
  | k + 1 => if l.getD k 0 ≠ 0 ∧ (k : Int) ≤ most then ((k : Int), true) else lastTo l most k
theorem last_gre (x0 x1 x2 x3 most : Int) : lastTo [x0, x1, x2, x3] most 4 = greOf [x0, x1, x2, x3] most := by
  unfold greOf
  have hc : most < 0 ∨ most = 0 ∨ most = 1 ∨ most = 2 ∨ 3 ≤ most := by omega
  rcases hc with h | rfl | rfl | rfl | h
  · rw [show (min most 3 + 1).toNat = 0 by omega]
    simp only [lastTo, greTo]
    rw [if_neg (by omega), if_neg (by omega), if_neg (by omega), if_neg (by omega)]
  · rw [show (min (0 : Int) 3 + 1).toNat = 1 by decide]
    simp only [lastTo, greTo]
    rw [if_neg (by omega), if_neg (by omega), if_neg (by omega)]
    by_cases h0 : x0 = 0 <;> simp [h0]
  · rw [show (min (1 : Int) 3 + 1).toNat = 2 by decide]
    simp only [lastTo, greTo]
    rw [if_neg (by omega), if_neg (by omega)]
    by_cases h0 : x0 = 0 <;> by_cases h1 : x1 = 0 <;> simp [h0, h1]
  · rw [show (min (2 : Int) 3 + 1).toNat = 3 by decide]
    simp only [lastTo, greTo]
    rw [if_neg (by omega)]
    by_cases h0 : x0 = 0 <;> by_cases h1 : x1 = 0 <;> by_cases h2 : x2 = 0 <;> simp [h0, h1, h2]
  · rw [show (min most 3 + 1).toNat = 4 by omega]
    simp only [lastTo, greTo]
    by_cases h0 : x0 = 0 <;> by_cases h1 : x1 = 0 <;> by_cases h2 : x2 = 0 <;> by_cases h3 : x3 = 0 <;> simp [h0, h1, h2, h3] <;> omega
set_option maxRecDepth 100000 in
set_option maxHeartbeats 4000000 in
theorem tells_any (x0 x1 x2 x3 key level u : Int) (hk : I64 key) (hl : I64 level) (w : World) :
    Calls Try.prog 3 #[.agg #[.int .u64 x0, .int .u64 x1, .int .u64 x2, .int .u64 x3, .int .i64 key, .int .i64 level, .int .u64 u]] w fun e w' => e = .returned (.bool true) ∧ Frm.Turn [] w w' := by
  obtain ⟨Wa, HWa⟩ : ∃ Wa, Hid (Wa = w.alloc (.cells #[.int .u64 x0, .int .u64 x1, .int .u64 x2, .int .u64 x3, .int .i64 key, .int .i64 level, .int .u64 u] 26)) := ⟨_, Lib.hid rfl⟩
  have hTa : Frm.Turn [] w Wa := by rw [HWa.out]; exact (Frm.Turn.refl [] w).alloc _
  have hba : Wa.heap[w.heap.size]? = some (.cells #[.int .u64 x0, .int .u64 x1, .int .u64 x2, .int .u64 x3, .int .i64 key, .int .i64 level, .int .u64 u] 26 (0, 0)) := by rw [HWa.out]; exact heap_new w _
  have HF := Lib.hid (first_any Wa)
  go_enter Try.func3, Try.ntmps3
  go_upto_region 1 with fail
  rw [← HWa.out]
  obtain ⟨b1, HB1⟩ : ∃ b1, Hid (b1 = w.heap.size) := ⟨_, Lib.hid rfl⟩
  rw [← HB1.out] at hba ⊢
  have HTa := Lib.hid hTa
  have HBa := Lib.hid hba
  clear hTa hba
  go_upto_region 3 with (go_at_call 7; (with_reducible refine (HF.out).mono ?_); rintro e w1 ⟨rfl, hT⟩; have HT1 := Lib.hid (HTa.out.trans hT (by simp)); have HB2 := Lib.hid (hT.keep HBa.out (by simp)); clear hT)
  have HK : Hid (∀ W, Frm.Turn [] w1 W → W.cell? ⟨b1, 0, none⟩ = some (.int .u64 x0) ∧ W.cell? ⟨b1, 1, none⟩ = some (.int .u64 x1) ∧ W.cell? ⟨b1, 2, none⟩ = some (.int .u64 x2) ∧ W.cell? ⟨b1, 3, none⟩ = some (.int .u64 x3) ∧ W.cell? ⟨b1, 4, none⟩ = some (.int .i64 key) ∧ W.cell? ⟨b1, 5, none⟩ = some (.int .i64 level) ∧ W.cell? ⟨b1, 6, none⟩ = some (.int .u64 u)) := Lib.hid fun W hT => by
    have h := hT.keep HB2.out (by simp)
    refine ⟨?_, ?_, ?_, ?_, ?_, ?_, ?_⟩ <;> simp [World.cell?, h]
  go_region_held3 (fun w' => w'.cell? ⟨b1, 0, none⟩ = some (.int .u64 x0) ∧ w'.cell? ⟨b1, 1, none⟩ = some (.int .u64 x1) ∧ w'.cell? ⟨b1, 2, none⟩ = some (.int .u64 x2) ∧ w'.cell? ⟨b1, 3, none⟩ = some (.int .u64 x3) ∧ w'.cell? ⟨b1, 4, none⟩ = some (.int .i64 key) ∧ w'.cell? ⟨b1, 5, none⟩ = some (.int .i64 level) ∧ w'.cell? ⟨b1, 6, none⟩ = some (.int .u64 u))
    (first
      | exact HK.out _ (Frm.Turn.refl [] w1).drew
      | exact HK.out _ ((Frm.Turn.refl [] w1).alloc _).drew
      | exact HK.out _ ((Frm.Turn.refl [] w1).drew.alloc _))
    (fail)
  go_upto_region 4 with fail
  obtain ⟨W3, HW3⟩ : ∃ W3, Hid (W3 = (w1.alloc (.cells #[.int .u64 x0, .int .u64 x1, .int .u64 x2, .int .u64 x3] 24)).drew) := ⟨_, Lib.hid rfl⟩
  rw [← HW3.out]
  obtain ⟨b3, HB3⟩ : ∃ b3, Hid (b3 = w1.heap.size) := ⟨_, Lib.hid rfl⟩
  rw [← HB3.out]
  have hb3 : W3.heap[b3]? = some (.cells #[.int .u64 x0, .int .u64 x1, .int .u64 x2, .int .u64 x3] 24 (0, 0)) := by rw [HW3.out, HB3.out]; exact heap_new w1 _
  have hT3 : Frm.Turn [] w W3 := by rw [HW3.out]; exact HT1.out.trans (((Frm.Turn.refl [] w1).alloc _).drew) (by simp)
  have hgr := great_any x0 x1 x2 x3 key hk W3
  obtain ⟨g, HGE⟩ : ∃ g, Hid (g = greOf [x0, x1, x2, x3] key) := ⟨_, Lib.hid rfl⟩
  rw [← HGE.out] at hgr
  simp only [nodeV, u64s, List.map_cons, List.map_nil] at hgr
  obtain ⟨a0, a1, a2, a3⟩ := cells4 hb3
  have HGR := Lib.hid hgr
  have HBB := Lib.hid hb3
  have HT3 := Lib.hid hT3
  clear hgr hb3 hT3 HW3 HK HB2 HT1 HBa HTa HF HWa
  go_upto_region 6 with (go_at_call 8; (with_reducible refine (HGR.out).mono ?_); rintro e w4 ⟨rfl, hT⟩; have HT4 := Lib.hid (HT3.out.trans hT (by simp)); have HB4 := Lib.hid (hT.keep HBB.out (by simp)); clear hT)
  clear a0 a1 a2 a3
  obtain ⟨a0, a1, a2, a3⟩ := cells4 HB4.out
  go_wp2
  go_loopw [9, 10, 11, 12, 31] (fun z s _ _ i wr => ∃ j : Nat, j ≤ 4 ∧ i = .int .i64 j ∧ z = .int .i64 (lastTo [x0, x1, x2, x3] key j).1 ∧ s = .bool (lastTo [x0, x1, x2, x3] key j).2 ∧ wr = w4) (fun _ _ _ _ i _ => 4 - (intOf i).toNat)
  case atStart => exact ⟨0, by omega, rfl, rfl, rfl, rfl⟩
  case round =>
    obtain ⟨j, hj, rfl, rfl, rfl, rfl⟩ := hrel
    by_cases hlt : j < 4
    · have hidx : ∀ w, (Instr.index 24 (.agg #[.int .u64 x0, .int .u64 x1, .int .u64 x2, .int .u64 x3]) (.int .i64 (j : Int))).run Try.prog w = .ok (.int .u64 ([x0, x1, x2, x3].getD j 0)) w := fun w => idx4 w x0 x1 x2 x3 j hlt
      have hnx : lastTo [x0, x1, x2, x3] key (j + 1) = if [x0, x1, x2, x3].getD j 0 ≠ 0 ∧ (j : Int) ≤ key then ((j : Int), true) else lastTo [x0, x1, x2, x3] key j := rfl
      obtain ⟨x, hxe⟩ : ∃ x, x = [x0, x1, x2, x3].getD j 0 := ⟨_, rfl⟩
      rw [← hxe] at hnx
      have hidx' : ∀ w, (Instr.index 24 (.agg #[.int .u64 x0, .int .u64 x1, .int .u64 x2, .int .u64 x3]) (.int .i64 (j : Int))).run Try.prog w = .ok (.int .u64 x) w := fun w => by rw [hxe]; exact hidx w
      have HNX := Lib.hid hnx
      clear hidx hxe hnx
      by_cases hx : x = 0
      · have e : lastTo [x0, x1, x2, x3] key (j + 1) = lastTo [x0, x1, x2, x3] key j := by rw [HNX.out, if_neg (by simp [hx])]
        have HE := Lib.hid e
        clear e
        subst hx
        go_wp2
        go_roundw
        case rel => exact ⟨j + 1, by omega, by go_num, by rw [HE.out], by rw [HE.out], trivial⟩
        case measure => simp [intOf]; omega
      · by_cases hjk : (j : Int) ≤ key
        · have e : lastTo [x0, x1, x2, x3] key (j + 1) = ((j : Int), true) := by rw [HNX.out, if_pos ⟨hx, hjk⟩]
          have HE := Lib.hid e
          clear e
          go_wp2
          go_roundw
          case rel => exact ⟨j + 1, by omega, by go_num, by rw [HE.out], by rw [HE.out], trivial⟩
          case measure => simp [intOf]; omega
        · have e : lastTo [x0, x1, x2, x3] key (j + 1) = lastTo [x0, x1, x2, x3] key j := by rw [HNX.out, if_neg (by omega)]
          have HE := Lib.hid e
          clear e
          go_wp2
          go_roundw
          case rel => exact ⟨j + 1, by omega, by go_num, by rw [HE.out], by rw [HE.out], trivial⟩
          case measure => simp [intOf]; omega
    · obtain rfl : j = 4 := by omega
      rw [last_gre, ← HGE.out]
      have HD : Hid (∀ W, Calls Try.prog 9 #[.int .i64 key, .int .i64 level] W fun e w' => e = .returned (.int .i64 (digitOf key level)) ∧ W = w') := Lib.hid fun W => digit_any key level hk hl W
      have HRD : Hid (∀ W, Calls Try.prog 10 #[.int .i64 key, .int .i64 level] W fun e w' => e = .returned (.int .i64 (digitOf key level)) ∧ W = w') := Lib.hid fun W => refDigit_any key level hk hl W
      generalize digitOf key level = dg at HD HRD
      obtain ⟨w4, HWR⟩ : ∃ w4, Hid (w4 = wr) := ⟨_, Lib.hid rfl⟩
      rw [← HWR.out] at HB4 HT4 a0 a1 a2 a3 ⊢
      go_upto_region 13 with fail
      by_cases h1 : level < 0
      · have hw : ∀ W, Calls Try.prog 11 #[.agg #[.int .u64 x0, .int .u64 x1, .int .u64 x2, .int .u64 x3], .int .i64 level, .int .u64 u] W fun e w' => e = .returned (.agg #[.int .u64 x0, .int .u64 x1, .int .u64 x2, .int .u64 x3]) ∧ Frm.Turn [] W w' := fun W => by
          have h := with_any x0 x1 x2 x3 level u hl W
          rw [show withOf [x0, x1, x2, x3] level u = [x0, x1, x2, x3] by unfold withOf; rw [if_neg (by omega)]] at h
          exact h
        have HW := Lib.hid hw
        have heq : ∀ w, (Op.equalIn 10000 24 (.agg #[.int .u64 x0, .int .u64 x1, .int .u64 x2, .int .u64 x3]) (.agg #[.int .u64 x0, .int .u64 x1, .int .u64 x2, .int .u64 x3])).run Try.prog w = .ok true w := fun w => equal4 w x0 x1 x2 x3 x0 x1 x2 x3 true (by simp)
        clear hw
        go_upto_region 15 with fail
        obtain ⟨W5, HW5⟩ : ∃ W5, Hid (W5 = w4.alloc (.cells #[.int .u64 x0, .int .u64 x1, .int .u64 x2, .int .u64 x3] 24)) := ⟨_, Lib.hid rfl⟩
        rw [← HW5.out]
        obtain ⟨b5, HB5⟩ : ∃ b5, Hid (b5 = w4.heap.size) := ⟨_, Lib.hid rfl⟩
        rw [← HB5.out]
        have HK : Hid (∀ w', Frm.Turn [] W5 w' → (w'.cell? ⟨b3, 0, none⟩ = some (.int .u64 x0) ∧ w'.cell? ⟨b3, 1, none⟩ = some (.int .u64 x1) ∧ w'.cell? ⟨b3, 2, none⟩ = some (.int .u64 x2) ∧ w'.cell? ⟨b3, 3, none⟩ = some (.int .u64 x3)) ∧ w'.cell? ⟨b5, 0, none⟩ = some (.int .u64 x0) ∧ w'.cell? ⟨b5, 1, none⟩ = some (.int .u64 x1) ∧ w'.cell? ⟨b5, 2, none⟩ = some (.int .u64 x2) ∧ w'.cell? ⟨b5, 3, none⟩ = some (.int .u64 x3)) := Lib.hid fun w' hT => by
          have h4 : W5.heap[b5]? = some (.cells #[.int .u64 x0, .int .u64 x1, .int .u64 x2, .int .u64 x3] 24 (0, 0)) := by rw [HW5.out, HB5.out]; exact heap_new w4 _
          have h3 := (hT.trans (Frm.Turn.refl [] w') (by simp)).keep (((Frm.Turn.refl [] w4).alloc (.cells #[.int .u64 x0, .int .u64 x1, .int .u64 x2, .int .u64 x3] 24)).keep HB4.out (by simp) |> (HW5.out ▸ ·)) (by simp)
          exact ⟨cells4 h3, cells4 (hT.keep h4 (by simp))⟩
        have HT5 : Hid (Frm.Turn [] w W5) := Lib.hid (by rw [HW5.out]; exact HT4.out.trans ((Frm.Turn.refl [] w4).alloc _) (by simp))
        clear HW5
        go_region_held3 (fun w' => (w'.cell? ⟨b3, 0, none⟩ = some (.int .u64 x0) ∧ w'.cell? ⟨b3, 1, none⟩ = some (.int .u64 x1) ∧ w'.cell? ⟨b3, 2, none⟩ = some (.int .u64 x2) ∧ w'.cell? ⟨b3, 3, none⟩ = some (.int .u64 x3)) ∧ w'.cell? ⟨b5, 0, none⟩ = some (.int .u64 x0) ∧ w'.cell? ⟨b5, 1, none⟩ = some (.int .u64 x1) ∧ w'.cell? ⟨b5, 2, none⟩ = some (.int .u64 x2) ∧ w'.cell? ⟨b5, 3, none⟩ = some (.int .u64 x3))
          (first
            | exact HK.out _ (Frm.Turn.refl [] W5).drew
            | exact HK.out _ HT6.out
            | go_keep)
          (first
            | (go_at_call 9; (with_reducible refine (HD.out _).mono ?_); rintro e w6 ⟨rfl, rfl⟩)
            | (go_at_call 10; (with_reducible refine (HRD.out _).mono ?_); rintro e w6 ⟨rfl, rfl⟩)
            | (go_at_call 11; (with_reducible refine (HW.out _).mono ?_); rintro e w6 ⟨rfl, hT6⟩; have HT6 := Lib.hid (((Frm.Turn.refl [] W5).drew).trans hT6 (by simp)); clear hT6))
        all_goals go_wp2_with fail
        all_goals go_ret
        all_goals exact ⟨rfl, HT5.out.trans HT6.out (by simp)⟩
      by_cases h2 : 3 < level
      · have hw : ∀ W, Calls Try.prog 11 #[.agg #[.int .u64 x0, .int .u64 x1, .int .u64 x2, .int .u64 x3], .int .i64 level, .int .u64 u] W fun e w' => e = .returned (.agg #[.int .u64 x0, .int .u64 x1, .int .u64 x2, .int .u64 x3]) ∧ Frm.Turn [] W w' := fun W => by
          have h := with_any x0 x1 x2 x3 level u hl W
          rw [show withOf [x0, x1, x2, x3] level u = [x0, x1, x2, x3] by unfold withOf; rw [if_neg (by omega)]] at h
          exact h
        have HW := Lib.hid hw
        have heq : ∀ w, (Op.equalIn 10000 24 (.agg #[.int .u64 x0, .int .u64 x1, .int .u64 x2, .int .u64 x3]) (.agg #[.int .u64 x0, .int .u64 x1, .int .u64 x2, .int .u64 x3])).run Try.prog w = .ok true w := fun w => equal4 w x0 x1 x2 x3 x0 x1 x2 x3 true (by simp)
        clear hw
        go_upto_region 15 with fail
        obtain ⟨W5, HW5⟩ : ∃ W5, Hid (W5 = w4.alloc (.cells #[.int .u64 x0, .int .u64 x1, .int .u64 x2, .int .u64 x3] 24)) := ⟨_, Lib.hid rfl⟩
        rw [← HW5.out]
        obtain ⟨b5, HB5⟩ : ∃ b5, Hid (b5 = w4.heap.size) := ⟨_, Lib.hid rfl⟩
        rw [← HB5.out]
        have HK : Hid (∀ w', Frm.Turn [] W5 w' → (w'.cell? ⟨b3, 0, none⟩ = some (.int .u64 x0) ∧ w'.cell? ⟨b3, 1, none⟩ = some (.int .u64 x1) ∧ w'.cell? ⟨b3, 2, none⟩ = some (.int .u64 x2) ∧ w'.cell? ⟨b3, 3, none⟩ = some (.int .u64 x3)) ∧ w'.cell? ⟨b5, 0, none⟩ = some (.int .u64 x0) ∧ w'.cell? ⟨b5, 1, none⟩ = some (.int .u64 x1) ∧ w'.cell? ⟨b5, 2, none⟩ = some (.int .u64 x2) ∧ w'.cell? ⟨b5, 3, none⟩ = some (.int .u64 x3)) := Lib.hid fun w' hT => by
          have h4 : W5.heap[b5]? = some (.cells #[.int .u64 x0, .int .u64 x1, .int .u64 x2, .int .u64 x3] 24 (0, 0)) := by rw [HW5.out, HB5.out]; exact heap_new w4 _
          have h3 := (hT.trans (Frm.Turn.refl [] w') (by simp)).keep (((Frm.Turn.refl [] w4).alloc (.cells #[.int .u64 x0, .int .u64 x1, .int .u64 x2, .int .u64 x3] 24)).keep HB4.out (by simp) |> (HW5.out ▸ ·)) (by simp)
          exact ⟨cells4 h3, cells4 (hT.keep h4 (by simp))⟩
        have HT5 : Hid (Frm.Turn [] w W5) := Lib.hid (by rw [HW5.out]; exact HT4.out.trans ((Frm.Turn.refl [] w4).alloc _) (by simp))
        clear HW5
        go_region_held3 (fun w' => (w'.cell? ⟨b3, 0, none⟩ = some (.int .u64 x0) ∧ w'.cell? ⟨b3, 1, none⟩ = some (.int .u64 x1) ∧ w'.cell? ⟨b3, 2, none⟩ = some (.int .u64 x2) ∧ w'.cell? ⟨b3, 3, none⟩ = some (.int .u64 x3)) ∧ w'.cell? ⟨b5, 0, none⟩ = some (.int .u64 x0) ∧ w'.cell? ⟨b5, 1, none⟩ = some (.int .u64 x1) ∧ w'.cell? ⟨b5, 2, none⟩ = some (.int .u64 x2) ∧ w'.cell? ⟨b5, 3, none⟩ = some (.int .u64 x3))
          (first
            | exact HK.out _ (Frm.Turn.refl [] W5).drew
            | exact HK.out _ HT6.out
            | go_keep)
          (first
            | (go_at_call 9; (with_reducible refine (HD.out _).mono ?_); rintro e w6 ⟨rfl, rfl⟩)
            | (go_at_call 10; (with_reducible refine (HRD.out _).mono ?_); rintro e w6 ⟨rfl, rfl⟩)
            | (go_at_call 11; (with_reducible refine (HW.out _).mono ?_); rintro e w6 ⟨rfl, hT6⟩; have HT6 := Lib.hid (((Frm.Turn.refl [] W5).drew).trans hT6 (by simp)); clear hT6))
        all_goals go_wp2_with fail
        all_goals go_ret
        all_goals exact ⟨rfl, HT5.out.trans HT6.out (by simp)⟩
      have hc : level = 0 ∨ level = 1 ∨ level = 2 ∨ level = 3 := by omega
      rcases hc with rfl | rfl | rfl | rfl
      · have hw : ∀ W, Calls Try.prog 11 #[.agg #[.int .u64 x0, .int .u64 x1, .int .u64 x2, .int .u64 x3], .int .i64 0, .int .u64 u] W fun e w' => e = .returned (.agg #[.int .u64 u, .int .u64 x1, .int .u64 x2, .int .u64 x3]) ∧ Frm.Turn [] W w' := fun W => by
          have h := with_any x0 x1 x2 x3 0 u hl W
          rw [show withOf [x0, x1, x2, x3] 0 u = [u, x1, x2, x3] from rfl] at h
          exact h
        have HW := Lib.hid hw
        have heq : ∀ w, (Op.equalIn 10000 24 (.agg #[.int .u64 u, .int .u64 x1, .int .u64 x2, .int .u64 x3]) (.agg #[.int .u64 u, .int .u64 x1, .int .u64 x2, .int .u64 x3])).run Try.prog w = .ok true w := fun w => equal4 w u x1 x2 x3 u x1 x2 x3 true (by simp)
        clear hw
        go_upto_region 15 with fail
        obtain ⟨W5, HW5⟩ : ∃ W5, Hid (W5 = w4.alloc (.cells #[.int .u64 u, .int .u64 x1, .int .u64 x2, .int .u64 x3] 24)) := ⟨_, Lib.hid rfl⟩
        rw [← HW5.out]
        obtain ⟨b5, HB5⟩ : ∃ b5, Hid (b5 = w4.heap.size) := ⟨_, Lib.hid rfl⟩
        rw [← HB5.out]
        have HK : Hid (∀ w', Frm.Turn [] W5 w' → (w'.cell? ⟨b3, 0, none⟩ = some (.int .u64 x0) ∧ w'.cell? ⟨b3, 1, none⟩ = some (.int .u64 x1) ∧ w'.cell? ⟨b3, 2, none⟩ = some (.int .u64 x2) ∧ w'.cell? ⟨b3, 3, none⟩ = some (.int .u64 x3)) ∧ w'.cell? ⟨b5, 0, none⟩ = some (.int .u64 u) ∧ w'.cell? ⟨b5, 1, none⟩ = some (.int .u64 x1) ∧ w'.cell? ⟨b5, 2, none⟩ = some (.int .u64 x2) ∧ w'.cell? ⟨b5, 3, none⟩ = some (.int .u64 x3)) := Lib.hid fun w' hT => by
          have h4 : W5.heap[b5]? = some (.cells #[.int .u64 u, .int .u64 x1, .int .u64 x2, .int .u64 x3] 24 (0, 0)) := by rw [HW5.out, HB5.out]; exact heap_new w4 _
          have h3 := (hT.trans (Frm.Turn.refl [] w') (by simp)).keep (((Frm.Turn.refl [] w4).alloc (.cells #[.int .u64 u, .int .u64 x1, .int .u64 x2, .int .u64 x3] 24)).keep HB4.out (by simp) |> (HW5.out ▸ ·)) (by simp)
          exact ⟨cells4 h3, cells4 (hT.keep h4 (by simp))⟩
        have HT5 : Hid (Frm.Turn [] w W5) := Lib.hid (by rw [HW5.out]; exact HT4.out.trans ((Frm.Turn.refl [] w4).alloc _) (by simp))
        clear HW5
        go_region_held3 (fun w' => (w'.cell? ⟨b3, 0, none⟩ = some (.int .u64 x0) ∧ w'.cell? ⟨b3, 1, none⟩ = some (.int .u64 x1) ∧ w'.cell? ⟨b3, 2, none⟩ = some (.int .u64 x2) ∧ w'.cell? ⟨b3, 3, none⟩ = some (.int .u64 x3)) ∧ w'.cell? ⟨b5, 0, none⟩ = some (.int .u64 u) ∧ w'.cell? ⟨b5, 1, none⟩ = some (.int .u64 x1) ∧ w'.cell? ⟨b5, 2, none⟩ = some (.int .u64 x2) ∧ w'.cell? ⟨b5, 3, none⟩ = some (.int .u64 x3))
          (first
            | exact HK.out _ (Frm.Turn.refl [] W5).drew
            | exact HK.out _ HT6.out
            | go_keep)
          (first
            | (go_at_call 9; (with_reducible refine (HD.out _).mono ?_); rintro e w6 ⟨rfl, rfl⟩)
            | (go_at_call 10; (with_reducible refine (HRD.out _).mono ?_); rintro e w6 ⟨rfl, rfl⟩)
            | (go_at_call 11; (with_reducible refine (HW.out _).mono ?_); rintro e w6 ⟨rfl, hT6⟩; have HT6 := Lib.hid (((Frm.Turn.refl [] W5).drew).trans hT6 (by simp)); clear hT6))
        all_goals go_wp2_with fail
        all_goals go_ret
        all_goals exact ⟨rfl, HT5.out.trans HT6.out (by simp)⟩
      · have hw : ∀ W, Calls Try.prog 11 #[.agg #[.int .u64 x0, .int .u64 x1, .int .u64 x2, .int .u64 x3], .int .i64 1, .int .u64 u] W fun e w' => e = .returned (.agg #[.int .u64 x0, .int .u64 u, .int .u64 x2, .int .u64 x3]) ∧ Frm.Turn [] W w' := fun W => by
          have h := with_any x0 x1 x2 x3 1 u hl W
          rw [show withOf [x0, x1, x2, x3] 1 u = [x0, u, x2, x3] from rfl] at h
          exact h
        have HW := Lib.hid hw
        have heq : ∀ w, (Op.equalIn 10000 24 (.agg #[.int .u64 x0, .int .u64 u, .int .u64 x2, .int .u64 x3]) (.agg #[.int .u64 x0, .int .u64 u, .int .u64 x2, .int .u64 x3])).run Try.prog w = .ok true w := fun w => equal4 w x0 u x2 x3 x0 u x2 x3 true (by simp)
        clear hw
        go_upto_region 15 with fail
        obtain ⟨W5, HW5⟩ : ∃ W5, Hid (W5 = w4.alloc (.cells #[.int .u64 x0, .int .u64 u, .int .u64 x2, .int .u64 x3] 24)) := ⟨_, Lib.hid rfl⟩
        rw [← HW5.out]
        obtain ⟨b5, HB5⟩ : ∃ b5, Hid (b5 = w4.heap.size) := ⟨_, Lib.hid rfl⟩
        rw [← HB5.out]
        have HK : Hid (∀ w', Frm.Turn [] W5 w' → (w'.cell? ⟨b3, 0, none⟩ = some (.int .u64 x0) ∧ w'.cell? ⟨b3, 1, none⟩ = some (.int .u64 x1) ∧ w'.cell? ⟨b3, 2, none⟩ = some (.int .u64 x2) ∧ w'.cell? ⟨b3, 3, none⟩ = some (.int .u64 x3)) ∧ w'.cell? ⟨b5, 0, none⟩ = some (.int .u64 x0) ∧ w'.cell? ⟨b5, 1, none⟩ = some (.int .u64 u) ∧ w'.cell? ⟨b5, 2, none⟩ = some (.int .u64 x2) ∧ w'.cell? ⟨b5, 3, none⟩ = some (.int .u64 x3)) := Lib.hid fun w' hT => by
          have h4 : W5.heap[b5]? = some (.cells #[.int .u64 x0, .int .u64 u, .int .u64 x2, .int .u64 x3] 24 (0, 0)) := by rw [HW5.out, HB5.out]; exact heap_new w4 _
          have h3 := (hT.trans (Frm.Turn.refl [] w') (by simp)).keep (((Frm.Turn.refl [] w4).alloc (.cells #[.int .u64 x0, .int .u64 u, .int .u64 x2, .int .u64 x3] 24)).keep HB4.out (by simp) |> (HW5.out ▸ ·)) (by simp)
          exact ⟨cells4 h3, cells4 (hT.keep h4 (by simp))⟩
        have HT5 : Hid (Frm.Turn [] w W5) := Lib.hid (by rw [HW5.out]; exact HT4.out.trans ((Frm.Turn.refl [] w4).alloc _) (by simp))
        clear HW5
        go_region_held3 (fun w' => (w'.cell? ⟨b3, 0, none⟩ = some (.int .u64 x0) ∧ w'.cell? ⟨b3, 1, none⟩ = some (.int .u64 x1) ∧ w'.cell? ⟨b3, 2, none⟩ = some (.int .u64 x2) ∧ w'.cell? ⟨b3, 3, none⟩ = some (.int .u64 x3)) ∧ w'.cell? ⟨b5, 0, none⟩ = some (.int .u64 x0) ∧ w'.cell? ⟨b5, 1, none⟩ = some (.int .u64 u) ∧ w'.cell? ⟨b5, 2, none⟩ = some (.int .u64 x2) ∧ w'.cell? ⟨b5, 3, none⟩ = some (.int .u64 x3))
          (first
            | exact HK.out _ (Frm.Turn.refl [] W5).drew
            | exact HK.out _ HT6.out
            | go_keep)
          (first
            | (go_at_call 9; (with_reducible refine (HD.out _).mono ?_); rintro e w6 ⟨rfl, rfl⟩)
            | (go_at_call 10; (with_reducible refine (HRD.out _).mono ?_); rintro e w6 ⟨rfl, rfl⟩)
            | (go_at_call 11; (with_reducible refine (HW.out _).mono ?_); rintro e w6 ⟨rfl, hT6⟩; have HT6 := Lib.hid (((Frm.Turn.refl [] W5).drew).trans hT6 (by simp)); clear hT6))
        all_goals go_wp2_with fail
        all_goals go_ret
        all_goals exact ⟨rfl, HT5.out.trans HT6.out (by simp)⟩
      · have hw : ∀ W, Calls Try.prog 11 #[.agg #[.int .u64 x0, .int .u64 x1, .int .u64 x2, .int .u64 x3], .int .i64 2, .int .u64 u] W fun e w' => e = .returned (.agg #[.int .u64 x0, .int .u64 x1, .int .u64 u, .int .u64 x3]) ∧ Frm.Turn [] W w' := fun W => by
          have h := with_any x0 x1 x2 x3 2 u hl W
          rw [show withOf [x0, x1, x2, x3] 2 u = [x0, x1, u, x3] from rfl] at h
          exact h
        have HW := Lib.hid hw
        have heq : ∀ w, (Op.equalIn 10000 24 (.agg #[.int .u64 x0, .int .u64 x1, .int .u64 u, .int .u64 x3]) (.agg #[.int .u64 x0, .int .u64 x1, .int .u64 u, .int .u64 x3])).run Try.prog w = .ok true w := fun w => equal4 w x0 x1 u x3 x0 x1 u x3 true (by simp)
        clear hw
        go_upto_region 15 with fail
        obtain ⟨W5, HW5⟩ : ∃ W5, Hid (W5 = w4.alloc (.cells #[.int .u64 x0, .int .u64 x1, .int .u64 u, .int .u64 x3] 24)) := ⟨_, Lib.hid rfl⟩
        rw [← HW5.out]
        obtain ⟨b5, HB5⟩ : ∃ b5, Hid (b5 = w4.heap.size) := ⟨_, Lib.hid rfl⟩
        rw [← HB5.out]
        have HK : Hid (∀ w', Frm.Turn [] W5 w' → (w'.cell? ⟨b3, 0, none⟩ = some (.int .u64 x0) ∧ w'.cell? ⟨b3, 1, none⟩ = some (.int .u64 x1) ∧ w'.cell? ⟨b3, 2, none⟩ = some (.int .u64 x2) ∧ w'.cell? ⟨b3, 3, none⟩ = some (.int .u64 x3)) ∧ w'.cell? ⟨b5, 0, none⟩ = some (.int .u64 x0) ∧ w'.cell? ⟨b5, 1, none⟩ = some (.int .u64 x1) ∧ w'.cell? ⟨b5, 2, none⟩ = some (.int .u64 u) ∧ w'.cell? ⟨b5, 3, none⟩ = some (.int .u64 x3)) := Lib.hid fun w' hT => by
          have h4 : W5.heap[b5]? = some (.cells #[.int .u64 x0, .int .u64 x1, .int .u64 u, .int .u64 x3] 24 (0, 0)) := by rw [HW5.out, HB5.out]; exact heap_new w4 _
          have h3 := (hT.trans (Frm.Turn.refl [] w') (by simp)).keep (((Frm.Turn.refl [] w4).alloc (.cells #[.int .u64 x0, .int .u64 x1, .int .u64 u, .int .u64 x3] 24)).keep HB4.out (by simp) |> (HW5.out ▸ ·)) (by simp)
          exact ⟨cells4 h3, cells4 (hT.keep h4 (by simp))⟩
        have HT5 : Hid (Frm.Turn [] w W5) := Lib.hid (by rw [HW5.out]; exact HT4.out.trans ((Frm.Turn.refl [] w4).alloc _) (by simp))
        clear HW5
        go_region_held3 (fun w' => (w'.cell? ⟨b3, 0, none⟩ = some (.int .u64 x0) ∧ w'.cell? ⟨b3, 1, none⟩ = some (.int .u64 x1) ∧ w'.cell? ⟨b3, 2, none⟩ = some (.int .u64 x2) ∧ w'.cell? ⟨b3, 3, none⟩ = some (.int .u64 x3)) ∧ w'.cell? ⟨b5, 0, none⟩ = some (.int .u64 x0) ∧ w'.cell? ⟨b5, 1, none⟩ = some (.int .u64 x1) ∧ w'.cell? ⟨b5, 2, none⟩ = some (.int .u64 u) ∧ w'.cell? ⟨b5, 3, none⟩ = some (.int .u64 x3))
          (first
            | exact HK.out _ (Frm.Turn.refl [] W5).drew
            | exact HK.out _ HT6.out
            | go_keep)
          (first
            | (go_at_call 9; (with_reducible refine (HD.out _).mono ?_); rintro e w6 ⟨rfl, rfl⟩)
            | (go_at_call 10; (with_reducible refine (HRD.out _).mono ?_); rintro e w6 ⟨rfl, rfl⟩)
            | (go_at_call 11; (with_reducible refine (HW.out _).mono ?_); rintro e w6 ⟨rfl, hT6⟩; have HT6 := Lib.hid (((Frm.Turn.refl [] W5).drew).trans hT6 (by simp)); clear hT6))
        all_goals go_wp2_with fail
        all_goals go_ret
        all_goals exact ⟨rfl, HT5.out.trans HT6.out (by simp)⟩
      · have hw : ∀ W, Calls Try.prog 11 #[.agg #[.int .u64 x0, .int .u64 x1, .int .u64 x2, .int .u64 x3], .int .i64 3, .int .u64 u] W fun e w' => e = .returned (.agg #[.int .u64 x0, .int .u64 x1, .int .u64 x2, .int .u64 u]) ∧ Frm.Turn [] W w' := fun W => by
          have h := with_any x0 x1 x2 x3 3 u hl W
          rw [show withOf [x0, x1, x2, x3] 3 u = [x0, x1, x2, u] from rfl] at h
          exact h
        have HW := Lib.hid hw
        have heq : ∀ w, (Op.equalIn 10000 24 (.agg #[.int .u64 x0, .int .u64 x1, .int .u64 x2, .int .u64 u]) (.agg #[.int .u64 x0, .int .u64 x1, .int .u64 x2, .int .u64 u])).run Try.prog w = .ok true w := fun w => equal4 w x0 x1 x2 u x0 x1 x2 u true (by simp)
        clear hw
        go_upto_region 15 with fail
        obtain ⟨W5, HW5⟩ : ∃ W5, Hid (W5 = w4.alloc (.cells #[.int .u64 x0, .int .u64 x1, .int .u64 x2, .int .u64 u] 24)) := ⟨_, Lib.hid rfl⟩
        rw [← HW5.out]
        obtain ⟨b5, HB5⟩ : ∃ b5, Hid (b5 = w4.heap.size) := ⟨_, Lib.hid rfl⟩
        rw [← HB5.out]
        have HK : Hid (∀ w', Frm.Turn [] W5 w' → (w'.cell? ⟨b3, 0, none⟩ = some (.int .u64 x0) ∧ w'.cell? ⟨b3, 1, none⟩ = some (.int .u64 x1) ∧ w'.cell? ⟨b3, 2, none⟩ = some (.int .u64 x2) ∧ w'.cell? ⟨b3, 3, none⟩ = some (.int .u64 x3)) ∧ w'.cell? ⟨b5, 0, none⟩ = some (.int .u64 x0) ∧ w'.cell? ⟨b5, 1, none⟩ = some (.int .u64 x1) ∧ w'.cell? ⟨b5, 2, none⟩ = some (.int .u64 x2) ∧ w'.cell? ⟨b5, 3, none⟩ = some (.int .u64 u)) := Lib.hid fun w' hT => by
          have h4 : W5.heap[b5]? = some (.cells #[.int .u64 x0, .int .u64 x1, .int .u64 x2, .int .u64 u] 24 (0, 0)) := by rw [HW5.out, HB5.out]; exact heap_new w4 _
          have h3 := (hT.trans (Frm.Turn.refl [] w') (by simp)).keep (((Frm.Turn.refl [] w4).alloc (.cells #[.int .u64 x0, .int .u64 x1, .int .u64 x2, .int .u64 u] 24)).keep HB4.out (by simp) |> (HW5.out ▸ ·)) (by simp)
          exact ⟨cells4 h3, cells4 (hT.keep h4 (by simp))⟩
        have HT5 : Hid (Frm.Turn [] w W5) := Lib.hid (by rw [HW5.out]; exact HT4.out.trans ((Frm.Turn.refl [] w4).alloc _) (by simp))
        clear HW5
        go_region_held3 (fun w' => (w'.cell? ⟨b3, 0, none⟩ = some (.int .u64 x0) ∧ w'.cell? ⟨b3, 1, none⟩ = some (.int .u64 x1) ∧ w'.cell? ⟨b3, 2, none⟩ = some (.int .u64 x2) ∧ w'.cell? ⟨b3, 3, none⟩ = some (.int .u64 x3)) ∧ w'.cell? ⟨b5, 0, none⟩ = some (.int .u64 x0) ∧ w'.cell? ⟨b5, 1, none⟩ = some (.int .u64 x1) ∧ w'.cell? ⟨b5, 2, none⟩ = some (.int .u64 x2) ∧ w'.cell? ⟨b5, 3, none⟩ = some (.int .u64 u))
          (first
            | exact HK.out _ (Frm.Turn.refl [] W5).drew
            | exact HK.out _ HT6.out
            | go_keep)
          (first
            | (go_at_call 9; (with_reducible refine (HD.out _).mono ?_); rintro e w6 ⟨rfl, rfl⟩)
            | (go_at_call 10; (with_reducible refine (HRD.out _).mono ?_); rintro e w6 ⟨rfl, rfl⟩)
            | (go_at_call 11; (with_reducible refine (HW.out _).mono ?_); rintro e w6 ⟨rfl, hT6⟩; have HT6 := Lib.hid (((Frm.Turn.refl [] W5).drew).trans hT6 (by simp)); clear hT6))
        all_goals go_wp2_with fail
        all_goals go_ret
        all_goals exact ⟨rfl, HT5.out.trans HT6.out (by simp)⟩
end Qud
end Go.Proofs.Ytennngngdmdpnaa
