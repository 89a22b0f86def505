/- The law's first: the walk. -/
import Derived.Test.YtjginajnegahdaaDoorDraftFirst
set_option linter.unusedVariables false
set_option linter.unusedSimpArgs false
namespace Go.Proofs.YtjginajnegahdaaDoor
namespace Drf
open Go.RowKit Go.Maps

def dL (z : Nat) : Dr := if z = 0 then dA else if z = 1 then dA.laid 65537 else if z = 2 then (dA.laid 65537).laid 131074 else if z = 3 then ((dA.laid 65537).laid 131074).laid 196611 else dB
theorem dL_0 : dL 0 = dA := rfl
theorem dL_4 : dL 4 = dB := rfl
theorem w64 {z : Int} (h : 0 ≤ z ∧ z < 18446744073709551616) : W64 z := h
set_option maxRecDepth 100000 in
set_option maxHeartbeats 8000000 in
theorem first_any (w : World) (hK : Ops.Kn w) : Calls Tryd.prog 6 #[] w fun e w' => e = .returned (.bool true) ∧ Frm.Turn [] w w' := by
  have HK := Lib.hid hK
  have HN0 := Lib.hid (New_any 0 0 0 0 0 0 0 (w64 (by decide)) (w64 (by decide)) (w64 (by decide)) (by decide) w)
  clear hK
  go_enter Tryd.func6, Tryd.ntmps6
  go_upto_region 2 with (go_at_call 9; (with_reducible refine (HN0.out).mono ?_); rintro e w1 ⟨b, S, rfl, hD, hT, hF⟩; have HD1 := Lib.hid hD; have HT1 := Lib.hid hT; have HF1 := Lib.hid hF; clear hD hT hF)
  have hap := apply_flat HD1.out (HK.out.turn HT1.out) (flat_new (by decide)) (by omega) 1 0 5 0 (by omega)
  rw [dA_is] at hap
  have HAP : Hid (Calls Tryd.prog 14 #[.pointer (some ⟨b, 0, none⟩), .agg #[.int .i64 1, .int .i64 0, .int .i64 5, .int .i64 0]] w1 fun e w' => e = .returned (.tuple #[.agg #[.int .i64 0, .int .i64 1], .int .u64 0]) ∧ ∃ S', Aft w1 b S dA 4 S' w') := Lib.hid hap
  clear hap
  go_upto_region 3 with (go_at_call 14; (with_reducible refine (HAP.out).mono ?_); rintro e w2 ⟨rfl, S2, hA⟩; have HA2 := Lib.hid hA; clear hA)
  have hD2 := HA2.out.at_.step (((Frm.Turn.refl [] w2).alloc (.cells #[.int .i64 0, .int .i64 1] 52)))
  have h3 := heap_alloc_new w2 (.cells #[.int .i64 0, .int .i64 1] 52)
  have hT2 : Frm.Turn [] w (w2.alloc (.cells #[.int .i64 0, .int .i64 1] 52)) := (HT1.out.trans HA2.out.turn (fun k hk => .inr (HF1.out k hk))).alloc _
  have hF2 : ∀ k, k ∈ foot b S2 → w.heap.size ≤ k ∧ k < w2.heap.size := fun k hk => ⟨by
    rcases HA2.out.new k hk with e | e
    · exact HF1.out k e
    · exact Nat.le_trans HT1.out.size e, HA2.out.at_.lt k hk⟩
  generalize w2.alloc _ = W2 at hD2 h3 hT2 ⊢
  generalize w2.heap.size = g3 at h3 hF2 ⊢
  have HD2 := Lib.hid hD2
  have H3 := Lib.hid h3
  have HT2 := Lib.hid hT2
  have HF2 := Lib.hid hF2
  have hnx := Next_any hD2 (by omega)
  rw [dA_next] at hnx
  have HNX := Lib.hid hnx
  clear hD2 h3 hT2 hF2 hnx
  go_upto_region 4 with (go_at_call 21; (with_reducible refine (HNX.out).mono ?_); rintro e w3 ⟨rfl, hT⟩; have HTn := Lib.hid hT; clear hT)
  have hT3 : Frm.Turn [] W2 (w3.alloc (.cells #[.int .u64 6, .int .u64 0, .int .u64 0, .int .u64 0] 58)) := HTn.out.alloc _
  have h5 := heap_alloc_new w3 (.cells #[.int .u64 6, .int .u64 0, .int .u64 0, .int .u64 0] 58)
  have hF3 : ∀ k, k ∈ foot b S2 → w.heap.size ≤ k ∧ k < w3.heap.size ∧ k ≠ g3 := fun k hk => ⟨(HF2.out k hk).1, Nat.lt_of_lt_of_le (HD2.out.lt k hk) HTn.out.size, by have := (HF2.out k hk).2; omega⟩
  generalize w3.alloc _ = W3 at hT3 h5 ⊢
  generalize w3.heap.size = g5 at h5 hF3 ⊢
  have HD3 := Lib.hid (HD2.out.step hT3)
  have H33 := Lib.hid (hT3.keep H3.out (by simp))
  have H5 := Lib.hid h5
  have HT3 := Lib.hid (HT2.out.trans hT3 (by simp))
  have HF3 := Lib.hid hF3
  clear hT3 h5 hF3
  go_wp2_with fail
  go_loopw [33] (fun i wr => ∃ (z : Nat) (zi : Int), z ≤ 4 ∧ zi = z ∧ i = .int .i64 zi ∧ DAt wr b S2 (dL z) 4 ∧ Frm.Turn (foot b S2) W3 wr) (fun i _ => 4 - (intOf i).toNat)
  case atStart => exact ⟨0, 0, by omega, rfl, rfl, HD3.out, Frm.Turn.refl _ _⟩
  case round =>
    obtain ⟨z, zi, hz, hzi, rfl, hD, hT⟩ := hrel
    have HT := Lib.hid hT
    have HLD := Lib.hid (fun x => Laid_any hD (by omega) x)
    obtain rfl | rfl | rfl | rfl | rfl : z = 0 ∨ z = 1 ∨ z = 2 ∨ z = 3 ∨ z = 4 := by omega
    · obtain rfl : zi = 0 := hzi
      clear hD hT
      go_wp2_with (go_at_call 22; (with_reducible refine (HLD.out _).mono ?_); rintro e w4 ⟨rfl, hA⟩; have HA := Lib.hid hA; clear hA)
      exact ⟨⟨1, 1, by omega, rfl, rfl, HA.out.at_, HT.out.trans HA.out.turn (fun k hk => .inl hk)⟩, by simp [intOf]⟩
    · obtain rfl : zi = 1 := hzi
      clear hD hT
      go_wp2_with (go_at_call 22; (with_reducible refine (HLD.out _).mono ?_); rintro e w4 ⟨rfl, hA⟩; have HA := Lib.hid hA; clear hA)
      exact ⟨⟨2, 2, by omega, rfl, rfl, HA.out.at_, HT.out.trans HA.out.turn (fun k hk => .inl hk)⟩, by simp [intOf]⟩
    · obtain rfl : zi = 2 := hzi
      clear hD hT
      go_wp2_with (go_at_call 22; (with_reducible refine (HLD.out _).mono ?_); rintro e w4 ⟨rfl, hA⟩; have HA := Lib.hid hA; clear hA)
      exact ⟨⟨3, 3, by omega, rfl, rfl, HA.out.at_, HT.out.trans HA.out.turn (fun k hk => .inl hk)⟩, by simp [intOf]⟩
    · obtain rfl : zi = 3 := hzi
      clear hD hT
      go_wp2_with (go_at_call 22; (with_reducible refine (HLD.out _).mono ?_); rintro e w4 ⟨rfl, hA⟩; have HA := Lib.hid hA; clear hA)
      exact ⟨⟨4, 4, by omega, rfl, rfl, HA.out.at_, HT.out.trans HA.out.turn (fun k hk => .inl hk)⟩, by simp [intOf]⟩
    · obtain rfl : zi = 4 := hzi
      rw [dL_4] at hD
      have hTw : Frm.Turn [] w wr := HT3.out.trans hT (fun k hk => .inr (HF3.out k hk).1)
      have hz3 : ∀ k, k ∈ foot b S2 → k < W3.heap.size := HD3.out.lt
      have h3 := hT.keep H33.out (fun hm => (HF3.out _ hm).2.2 rfl)
      have h5 := hT.keep H5.out (fun hm => by have := (HF3.out _ hm).2.1; omega)
      have hvr := Version_any hD
      rw [dB_ver] at hvr
      have HVR := Lib.hid hvr
      have HD4 := Lib.hid hD
      have HTw := Lib.hid hTw
      have H34 := Lib.hid h3
      have H54 := Lib.hid h5
      clear hD hT hTw hz3 h3 h5 hvr HLD
      go_upto_region 10 with (go_at_call 24; (with_reducible refine (HVR.out).mono ?_); rintro e w5 ⟨rfl, hT⟩; have HT5 := Lib.hid hT; clear hT)
      have hT6 : Frm.Turn [] wr (w5.alloc (.cells #[.int .u64 0, .int .i64 0, .int .u64 262148, .int .i64 0, .int .i64 1, .int .u64 0, .int .i64 0] 34)) := HT5.out.alloc _
      have h8 := heap_alloc_new w5 (.cells #[.int .u64 0, .int .i64 0, .int .u64 262148, .int .i64 0, .int .i64 1, .int .u64 0, .int .i64 0] 34)
      have hF6 : ∀ k, k ∈ foot b S2 → k < w5.heap.size := fun k hk => Nat.lt_of_lt_of_le (HD4.out.lt k hk) HT5.out.size
      generalize w5.alloc _ = W6 at hT6 h8 ⊢
      generalize w5.heap.size = g8 at h8 hF6 ⊢
      have HD6 := Lib.hid (HD4.out.step hT6)
      have H36 := Lib.hid (hT6.keep H34.out (by simp))
      have H56 := Lib.hid (hT6.keep H54.out (by simp))
      have H86 := Lib.hid h8
      have HT6 := Lib.hid (HTw.out.trans hT6 (by simp))
      obtain ⟨⟨v0, v1, v2, v3, v4, v5, v6⟩, -⟩ := ver_cells h8
      have hz6 := (Array.getElem?_eq_some_iff.1 h8).1
      have HN6 := Lib.hid (New_any 0 0 262148 0 1 0 0 (w64 (by decide)) (w64 (by decide)) (w64 (by decide)) (by decide) W6)
      clear hT6 h8 hF6
      go_upto_region 11 with (go_at_call 9; (with_reducible refine (HN6.out).mono ?_); rintro e w7 ⟨b7, S7, rfl, hD, hT, hF⟩; have HD7 := Lib.hid hD; have HT7 := Lib.hid hT; have HF7 := Lib.hid hF; clear hD hT hF)
      clear v0 v1 v2 v3 v4 v5 v6 hz6
      have hap7 := apply_flat HD7.out (HK.out.turn (HT6.out.trans HT7.out (by simp))) (flat_new (by decide)) (by omega) 2 0 0 0 (fun _ => .inr (by decide))
      rw [dC_is] at hap7
      have HAP7 : Hid (Calls Tryd.prog 14 #[.pointer (some ⟨b7, 0, none⟩), .agg #[.int .i64 2, .int .i64 0, .int .i64 0, .int .i64 0]] w7 fun e w' => e = .returned (.tuple #[.agg #[.int .i64 0, .int .i64 0], .int .u64 262148]) ∧ ∃ S', Aft w7 b7 S7 (Dr.new 0 0 262148 0 1 0 0) 4 S' w') := Lib.hid hap7
      clear hap7
      go_upto_region 12 with (go_at_call 14; (with_reducible refine (HAP7.out).mono ?_); rintro e w8 ⟨rfl, S8, hA⟩; have HA8 := Lib.hid hA; clear hA)
      have hT9 : Frm.Turn [] W6 (w8.alloc (.cells #[.int .i64 0, .int .i64 0] 52)) := (HT7.out.trans HA8.out.turn (fun k hk => .inr (HF7.out k hk))).alloc _
      generalize w8.alloc _ = W9 at hT9 ⊢
      have HT9 := Lib.hid hT9
      have HNW := Lib.hid (New_wrong 0 0 0 256 0 0 0 (by decide) W9)
      clear hT9
      go_upto_region 13 with (go_at_call 9; (with_reducible refine (HNW.out).mono ?_); rintro e w10 ⟨rfl, hT⟩; have HT10 := Lib.hid (HT9.out.trans hT (by simp)); clear hT)
      have hnx2 := Next_any (HD6.out.step HT10.out) (by omega)
      rw [dB_next] at hnx2
      have HNX2 := Lib.hid hnx2
      clear hnx2
      go_upto_region 14 with (go_at_call 21; (with_reducible refine (HNX2.out).mono ?_); rintro e w11 ⟨rfl, hT⟩; have HT11 := Lib.hid (HT10.out.trans hT (by simp)); clear hT)
      have hT12 : Frm.Turn [] W6 (w11.alloc (.cells #[.int .u64 0, .int .u64 0, .int .u64 0, .int .u64 0] 58)) := HT11.out.alloc _
      generalize w11.alloc _ = W12 at hT12 ⊢
      obtain ⟨⟨r0, r1⟩, -⟩ := blk2 (hT12.keep H36.out (by simp))
      obtain ⟨n0, n1, n2, n3⟩ := op_cells (hT12.keep H56.out (by simp))
      have h8 := hT12.keep H86.out (by simp)
      obtain ⟨⟨v0, v1, v2, v3, v4, v5, v6⟩, -⟩ := ver_cells h8
      have HNE := equal4 W12 6 0 0 0 6 0 0 0 true (by decide)
      have hdr := Dropped_any (HD6.out.step hT12) (by omega)
      rw [dB_drop] at hdr
      have HDR : Hid (Calls Tryd.prog 23 #[.pointer (some ⟨b, 0, none⟩)] W12 fun e w' => (∃ a c, e = .returned (.slice a 0 c)) ∧ Frm.Turn [] W12 w') := Lib.hid (hdr.mono fun e w' ⟨v, he, ho, hT⟩ => by
        obtain ⟨a, c, rfl⟩ := Frm.row_form ho
        exact ⟨⟨a, c, he⟩, hT⟩)
      have HRT : Hid (∀ W : World, Calls Tryd.prog 19 #[.agg #[.int .u64 0, .int .i64 0, .int .u64 262148, .int .i64 0, .int .i64 1, .int .u64 0, .int .i64 0]] W fun e w' => e = .returned (.bool true) ∧ Frm.Turn [] W w') := Lib.hid fun W => Right_any 0 0 262148 0 1 0 0 W
      have H8 := Lib.hid h8
      have HT12 := Lib.hid (HT6.out.trans hT12 (by simp))
      clear h8 hdr hT12
      go_wp2_with (first
        | (go_at_call 23; (with_reducible refine (HDR.out).mono ?_); rintro e w13 ⟨⟨a13, c13, rfl⟩, hT⟩; obtain ⟨⟨x0, x1, x2, x3, x4, x5, x6⟩, -⟩ := ver_cells (hT.keep H8.out (by simp)); have HT13 := Lib.hid (HT12.out.trans hT (by simp)); clear hT)
        | (go_at_call 19; (with_reducible refine (HRT.out _).mono ?_); rintro e w14 ⟨rfl, hT⟩; have HT14 := Lib.hid (HT13.out.trans hT (by simp)); clear hT))
      go_ret
      exact ⟨rfl, HT14.out⟩
end Drf
end Go.Proofs.YtjginajnegahdaaDoor
