/- A node: its words one by one. -/
import Derived.Test.YtennngngdmdpnaaQuadWalk
import Derived.Deep.Cut
set_option linter.unusedVariables false
set_option linter.unusedSimpArgs false
namespace Go.Proofs.Ytennngngdmdpnaa
namespace Qud
open Go.RowKit Go.Maps Arn

theorem idx_0 (w : World) (x0 x1 x2 x3 : Int) : (Instr.index 24 (.agg #[.int .u64 x0, .int .u64 x1, .int .u64 x2, .int .u64 x3]) (.int .i64 0)).run Try.prog w = .ok (.int .u64 x0) w := by
  kernel_rfl
theorem idx_1 (w : World) (x0 x1 x2 x3 : Int) : (Instr.index 24 (.agg #[.int .u64 x0, .int .u64 x1, .int .u64 x2, .int .u64 x3]) (.int .i64 1)).run Try.prog w = .ok (.int .u64 x1) w := by
  kernel_rfl
theorem idx_2 (w : World) (x0 x1 x2 x3 : Int) : (Instr.index 24 (.agg #[.int .u64 x0, .int .u64 x1, .int .u64 x2, .int .u64 x3]) (.int .i64 2)).run Try.prog w = .ok (.int .u64 x2) w := by
  kernel_rfl
theorem idx_3 (w : World) (x0 x1 x2 x3 : Int) : (Instr.index 24 (.agg #[.int .u64 x0, .int .u64 x1, .int .u64 x2, .int .u64 x3]) (.int .i64 3)).run Try.prog w = .ok (.int .u64 x3) w := by
  kernel_rfl
theorem idx4 (w : World) (x0 x1 x2 x3 : Int) (j : Nat) (hj : j < 4) : (Instr.index 24 (.agg #[.int .u64 x0, .int .u64 x1, .int .u64 x2, .int .u64 x3]) (.int .i64 (j : Int))).run Try.prog w = .ok (.int .u64 ([x0, x1, x2, x3].getD j 0)) w := by
  have hjc : j = 0 ∨ j = 1 ∨ j = 2 ∨ j = 3 := by omega
  rcases hjc with rfl | rfl | rfl | rfl
  · exact idx_0 w x0 x1 x2 x3
  · exact idx_1 w x0 x1 x2 x3
  · exact idx_2 w x0 x1 x2 x3
  · exact idx_3 w x0 x1 x2 x3
theorem or_digit (d : Int) (j : Nat) (h0 : 0 ≤ d) (h1 : d < 64) (hj : j < 4) : bits BinOp.or IntKind.i64 (d * 4) (j : Int) = 4 * d + j := by
  have h : ∀ a : Fin 64, ∀ b : Fin 4, bits BinOp.or IntKind.i64 (((a : Nat) : Int) * 4) ((b : Nat) : Int) = 4 * ((a : Nat) : Int) + ((b : Nat) : Int) := by decide +kernel
  have h2 := h ⟨d.toNat, by omega⟩ ⟨j, hj⟩
  simp only at h2
  rwa [show ((d.toNat : Nat) : Int) = d by omega] at h2
set_option maxRecDepth 100000 in
set_option maxHeartbeats 4000000 in
theorem node_step (f : Nat) (hf : f ≤ 3) (hB : Below_ f) : Node_ f := by
  intro w0 r m n nd H P hv pv W h d hW hw hd hd2 hnd hH hP
  have hpf := pow4_pos f
  have hd64 : d < 64 := by
    by_cases h1 : d < 64
    · exact h1
    · have : 65 * 1 ≤ (d + 1) * pow4 f := Int.mul_le_mul (by omega) hpf (by omega) (by omega)
      omega
  obtain ⟨x0, x1, x2, x3, hx⟩ : ∃ x0 x1 x2 x3, nd h = [x0, x1, x2, x3] := by
    have hl := (hnd h).1
    match hv : nd h, hl with
    | [x0, x1, x2, x3], _ => exact ⟨x0, x1, x2, x3, rfl⟩
  have hlk := hW.nat.look hw
  rw [hx] at hlk
  simp only [nodeV, u64s, List.map_cons, List.map_nil] at hlk
  obtain ⟨lv, HLV⟩ : ∃ lv : Int, Hid (lv = 3 - (f : Int)) := ⟨_, Lib.hid rfl⟩
  rw [← HLV.out]
  by_cases hz : nd h = zero4
  · have e : walkW nd (f + 1) h d = none := by simp only [walkW]; rw [if_pos hz]
    rw [e]
    rw [hx] at hz
    simp only [zero4, List.cons.injEq, and_true] at hz
    obtain ⟨rfl, rfl, rfl, rfl⟩ := hz
    have heq := fun w => equal4 w 0 0 0 0 0 0 0 0 true rfl
    obtain ⟨c0, c1, c2⟩ := hW.body.cells
    have HW := Lib.hid hW
    clear hW
    go_enter Try.func66, Try.ntmps66
    go_wp2
    go_ret
    exact ⟨rfl, HW.out.turn.trans ((Frm.Turn.refl [] W).alloc _) (by simp)⟩
  · have heq : ∀ w, (Op.equalIn 10000 24 (.agg #[.int .u64 x0, .int .u64 x1, .int .u64 x2, .int .u64 x3]) (.agg #[.int .u64 0, .int .u64 0, .int .u64 0, .int .u64 0])).run Try.prog w = .ok false w := fun w => equal4 w x0 x1 x2 x3 0 0 0 0 false (by
      rw [hx] at hz
      simp only [zero4, List.cons.injEq, and_true] at hz
      cases h0 : (x0 == 0) <;> cases h1 : (x1 == 0) <;> cases h2 : (x2 == 0) <;> cases h3 : (x3 == 0) <;> simp_all)
    obtain ⟨i0, hi0, hz0, hz1, hz2⟩ := info_parts info_u64
    obtain ⟨ao, ac, rfl⟩ : ∃ ao ac, hv = .slice ao H.length ac := Frm.row_form hW.hs
    obtain ⟨c0, c1, c2⟩ := hW.body.cells
    have t1 := hW.body.thaw 1
    have hHl : H.length ≤ 1000000 := by simp [cap] at hH; omega
    have hsz := hW.turn.size
    obtain ⟨W1, HW1⟩ : ∃ W1, Hid (W1 = W.alloc (.cells #[.int .u64 x0, .int .u64 x1, .int .u64 x2, .int .u64 x3] 24)) := ⟨_, Lib.hid rfl⟩
    have hW1 : WAt w0 r m n nd H P (.slice ao H.length ac) pv W1 := by rw [HW1.out]; exact hW.step ((Frm.Turn.refl [] W).alloc _)
    have hc4 : W1.heap[W.heap.size]? = some (.cells #[.int .u64 x0, .int .u64 x1, .int .u64 x2, .int .u64 x3] 24 (0, 0)) := by rw [HW1.out]; exact heap_new W _
    go_enter Try.func66, Try.ntmps66
    go_upto_region 2 with fail
    rw [← HW1.out]
    obtain ⟨bx, HBX⟩ : ∃ bx, Hid (bx = W.heap.size) := ⟨_, Lib.hid rfl⟩
    have hbs : w0.heap.size ≤ bx := by rw [HBX.out]; exact hsz
    rw [← HBX.out] at hc4 ⊢
    have hbl : bx < W1.heap.size := (Array.getElem?_eq_some_iff.1 hc4).1
    have HC4 := Lib.hid hc4
    have HWA := Lib.hid hW1
    obtain ⟨k0, k1, k2⟩ := hW1.body.cells
    have u1 := hW1.body.thaw 1
    obtain ⟨a0, a1, a2, a3⟩ := cells4 hc4
    have HB := Lib.hid hB
    have HND := Lib.hid hnd
    have hsz1 := hW1.turn.size
    have hbr : r ≠ bx := fun e => by have := hW1.body; unfold WBody at this; rw [e, hc4] at this; simp at this
    have hbh := row_ne hW1.hs hc4 (fun cs e => by simp at e)
    clear hc4 hW1 hW c0 c1 c2 t1 hlk hB hnd
    go_upto_region 5 with (at_builtin; go_must (refine wpList_append_own_at _ rfl _ _ 47 rfl w0.heap.size 22 i0 (.int .u64 0) 1 8 under_u64s hi0 hz0 hz1 hz2 rfl (by decide) (.slice ao H.length ac) H.length (u64s H) rfl (Frm.owns_turn HWA.out.hs ((Frm.Turn.refl [] W1).alloc _) (by simp)) ⟨W1.heap.size, 0, none⟩ 1 1 [.int .u64 h] rfl rfl (news1 _ _ _) (by simp [Value.oneCell']) (by unfold maxLen; omega) (by omega) (by simp; omega) ?_); intro v1 w3 hown3 hg3 _ hl3; obtain ⟨ao1, c1', rfl⟩ := Frm.row_form hown3; have hb3 := (HWA.out.body.turn ((Frm.Turn.refl [] _).alloc _) (by simp)).turn (Frm.Turn.of_grown hg3) (by simp; exact fun e => HWA.out.rh e); obtain ⟨d0, d1, d2⟩ := hb3.cells; have e3 := hb3.thaw 1; have hA := HWA.out.push_h hown3 hg3 hl3; have hbk := (((Frm.Turn.of_grown hg3).mono (G := r :: (Value.slice ao H.length ac).ownBlock.toList) (by simp +contextual)).setCell (p := ⟨r, 1, none⟩) (.inl (by simp)) (.slice ao1 (H.length + 1) c1')).keep ((Frm.Turn.refl [] W1).alloc (.cells #[.int .u64 h] 22) |>.keep HC4.out (by simp)) (by simp; exact ⟨hbr.symm, hbh⟩); have HA := Lib.hid hA; have HBK := Lib.hid hbk; clear hown3 hg3 hl3 hb3 hA hbk)
    obtain ⟨W2, HW2⟩ : ∃ W2, Hid (W2 = w3.setCell ⟨r, 1, none⟩ (.slice ao1 (H.length + 1) c1')) := ⟨_, Lib.hid rfl⟩
    rw [← HW2.out] at HA HBK ⊢
    obtain ⟨hv1, hwa1⟩ : ∃ hv1, WAt w0 r m n nd (H ++ [h]) P hv1 pv W2 := ⟨_, HA.out⟩
    obtain ⟨b0, b1, b2, b3⟩ := cells4 HBK.out
    have HA1 := Lib.hid hwa1
    clear a0 a1 a2 a3 d0 d1 d2 e3 k0 k1 k2 u1 HA hwa1 HWA HC4 HW1 HW2
    go_wp2
    clear b0 b1 b2 b3
    go_loopw [10, 11, 32] (fun x y i wr => ∃ j : Nat, j ≤ 4 ∧ i = .int .i64 j ∧ ∃ t : Tr, kidsTo (walkW nd f) (4 * d) [x0, x1, x2, x3] j = some t ∧ ∃ hv pv, WAt w0 r m n nd (H ++ h :: t.1) (P ++ t.2) hv pv wr) (fun _ _ i _ => 4 - (intOf i).toNat)
    case atStart => exact ⟨0, by omega, rfl, ([], []), rfl, _, _, by simpa using HA1.out⟩
    case round =>
      obtain ⟨j, hj, rfl, t, ht, hv2, pv2, hS⟩ := hrel
      have hcp := kids_cap (c := cap f) (fun x d r hr => walk_cap nd f x d r hr) j t ht
      obtain ⟨B, HBc⟩ : ∃ B, Hid (B = cap f) := ⟨_, Lib.hid rfl⟩
      simp only [cap] at hH hP
      rw [← HBc.out] at hcp hH hP
      have hcm : j * B ≤ 3 * B ∨ j = 4 := by
        by_cases e : j = 4
        · exact .inr e
        · exact .inl (Nat.mul_le_mul_right _ (by omega))
      by_cases hlt : j < 4
      · have hm : ∀ x, x ∈ [x0, x1, x2, x3] → W64 x := fun x hxm => (HND.out h).2 x (by rw [hx]; exact hxm)
        have hidx : ∀ w, (Instr.index 24 (.agg #[.int .u64 x0, .int .u64 x1, .int .u64 x2, .int .u64 x3]) (.int .i64 (j : Int))).run Try.prog w = .ok (.int .u64 ([x0, x1, x2, x3].getD j 0)) w := fun w => idx4 w x0 x1 x2 x3 j hlt
        have hmx : [x0, x1, x2, x3].getD j 0 ∈ [x0, x1, x2, x3] := by
          rw [List.getD_eq_getElem?_getD, List.getElem?_eq_getElem (by simpa using hlt)]
          simp
        have hkn : kidsTo (walkW nd f) (4 * d) [x0, x1, x2, x3] (j + 1) = if [x0, x1, x2, x3].getD j 0 = 0 then some t else (walkW nd f ([x0, x1, x2, x3].getD j 0) (4 * d + j)).map fun b => (t.1 ++ b.1, t.2 ++ b.2) := by
          simp only [kidsTo, ht, Option.bind_some]
        have hwx := hm _ hmx
        obtain ⟨x, hxe⟩ : ∃ x, x = [x0, x1, x2, x3].getD j 0 := ⟨_, rfl⟩
        rw [← hxe] at hkn hmx hwx
        have hidx' : ∀ w, (Instr.index 24 (.agg #[.int .u64 x0, .int .u64 x1, .int .u64 x2, .int .u64 x3]) (.int .i64 (j : Int))).run Try.prog w = .ok (.int .u64 x) w := fun w => by rw [hxe]; exact hidx w
        have HKN := Lib.hid hkn
        have HS := Lib.hid hS
        have hor := or_digit d j hd hd64 hlt
        clear hS hidx hm hkn hxe hmx
        by_cases hz0 : x = 0
        · subst hz0
          go_wp2
          go_roundw
          case rel => exact ⟨j + 1, by omega, by go_num, t, by rw [HKN.out]; rfl, _, _, HS.out⟩
          case measure => simp [intOf]; omega
        · have hB3 : (j + 1) * B = j * B + B := Nat.succ_mul j B
          have hp4 : (4 * d + (j : Int) + 1) * pow4 f ≤ 256 := by
            have e1 : (4 * d + (j : Int) + 1) * pow4 f ≤ (4 * (d + 1)) * pow4 f := Int.mul_le_mul_of_nonneg_right (by omega) (by omega)
            rw [Int.mul_assoc] at e1
            omega
          have hcall := HB.out w0 r m n nd (H ++ h :: t.1) (P ++ t.2) hv2 pv2 wr x (4 * d + (j : Int)) HS.out hwx hz0 (by omega) hp4 HND.out
            (by rw [← HBc.out]; simp only [List.length_append, List.length_cons]; omega) (by rw [← HBc.out]; simp only [List.length_append]; omega)
          rw [← HLV.out] at hcall
          clear hp4
          cases ho : walkW nd f x (4 * d + (j : Int)) with
          | none =>
            rw [ho] at hcall
            have HC := Lib.hid hcall
            have hres : walkW nd (f + 1) h d = none := by
              have h1 : kidsTo (walkW nd f) (4 * d) [x0, x1, x2, x3] (j + 1) = none := by rw [HKN.out, if_neg hz0, ho]; rfl
              simp only [walkW]
              rw [if_neg hz, hx, kids_stuck h1 4 (by omega)]
              rfl
            rw [hres]
            clear hcall
            go_wp2_with (go_at_call 77; go_must (with_reducible refine (HC.out).mono ?_); rintro e w4 ⟨rfl, hT⟩; have HT := Lib.hid hT; clear hT)
            go_ret
            exact ⟨rfl, HT.out⟩
          | some b =>
            rw [ho] at hcall
            have HC := Lib.hid hcall
            have HKN2 : Hid (kidsTo (walkW nd f) (4 * d) [x0, x1, x2, x3] (j + 1) = some (t.1 ++ b.1, t.2 ++ b.2)) := Lib.hid (by rw [HKN.out, if_neg hz0, ho]; rfl)
            clear hcall
            go_wp2_with (go_at_call 77; go_must (with_reducible refine (HC.out).mono ?_); rintro e w4 ⟨rfl, hv4, pv4, hW4⟩; have HW4 := Lib.hid hW4; clear hW4)
            refine ⟨⟨j + 1, by omega, by go_num, _, HKN2.out, _, _, by simpa using HW4.out⟩, ?_⟩
            simp [intOf]; omega
      · obtain rfl : j = 4 := by omega
        have hres : walkW nd (f + 1) h d = some (h :: t.1, t.2) := by
          simp only [walkW]
          rw [if_neg hz, hx, ht]
          rfl
        rw [hres]
        have HS := Lib.hid hS
        clear hS
        go_wp2
        go_ret
        exact ⟨rfl, _, _, HS.out⟩
/-- A node, and what is below one, at each level. -/
theorem below_all : ∀ f, f ≤ 3 → Below_ f := by
  intro f
  induction f with
  | zero => intro _; exact below_zero
  | succ f ih => intro hf; exact below_node f hf (node_step f (by omega) (ih (by omega)))
theorem node_top : Node_ 3 := node_step 3 (by omega) (below_all 3 (by omega))
end Qud
end Go.Proofs.Ytennngngdmdpnaa
