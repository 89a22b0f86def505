/- Law DraftShares, walked for each code of an operation. -/
import Derived.Test.YtjginajnegahdaaDoorDraftPure
import Derived.Deep.Cut
set_option linter.unusedVariables false
set_option linter.unusedSimpArgs false
namespace Go.Proofs.YtjginajnegahdaaDoor
namespace Drf
open Go.RowKit Go.Maps

set_option maxRecDepth 100000 in
set_option maxHeartbeats 8000000 in
theorem shares_0 {m ml q fr ql s sl k a b2 : Int} (hm : W64 m) (hq : W64 q) (hs : W64 s) (w : World) (hK : Ops.Kn w) :
    Calls Tryd.prog 5 #[.agg #[.int .u64 m, .int .i64 ml, .int .u64 q, .int .i64 fr, .int .i64 ql, .int .u64 s, .int .i64 sl], .agg #[.int .i64 0, .int .i64 k, .int .i64 a, .int .i64 b2]] w fun e w' => e = .returned (.bool true) ∧ Frm.Turn [] w w' := by
  have T0 : Frm.Turn [] w ((w.alloc (.cells #[.int .u64 m, .int .i64 ml, .int .u64 q, .int .i64 fr, .int .i64 ql, .int .u64 s, .int .i64 sl] 34)).alloc (.cells #[.int .i64 0, .int .i64 k, .int .i64 a, .int .i64 b2] 44)) := ((Frm.Turn.refl [] w).alloc _).alloc _
  have hv0 : ((w.alloc (.cells #[.int .u64 m, .int .i64 ml, .int .u64 q, .int .i64 fr, .int .i64 ql, .int .u64 s, .int .i64 sl] 34)).alloc (.cells #[.int .i64 0, .int .i64 k, .int .i64 a, .int .i64 b2] 44)).heap[w.heap.size]? = some (.cells #[.int .u64 m, .int .i64 ml, .int .u64 q, .int .i64 fr, .int .i64 ql, .int .u64 s, .int .i64 sl] 34 (0, 0)) := ((Frm.Turn.refl [] _).alloc _).keep (heap_alloc_new w _) (by simp)
  have ho0 : ((w.alloc (.cells #[.int .u64 m, .int .i64 ml, .int .u64 q, .int .i64 fr, .int .i64 ql, .int .u64 s, .int .i64 sl] 34)).alloc (.cells #[.int .i64 0, .int .i64 k, .int .i64 a, .int .i64 b2] 44)).heap[w.heap.size + 1]? = some (.cells #[.int .i64 0, .int .i64 k, .int .i64 a, .int .i64 b2] 44 (0, 0)) := by
    have := heap_alloc_new (w.alloc (.cells #[.int .u64 m, .int .i64 ml, .int .u64 q, .int .i64 fr, .int .i64 ql, .int .u64 s, .int .i64 sl] 34)) (.cells #[.int .i64 0, .int .i64 k, .int .i64 a, .int .i64 b2] 44)
    rw [World.size_alloc] at this
    exact this
  have HT0 := Lib.hid T0
  have HV0 := Lib.hid hv0
  have HO0 := Lib.hid ho0
  have HFI := Lib.hid (fun W (hT : Frm.Turn [] w W) => first_any W (hK.turn hT))
  have HKN := Lib.hid (fun W (hT : Frm.Turn [] w W) => hK.turn hT)
  have HM := Lib.hid hm
  have HQ := Lib.hid hq
  have HS := Lib.hid hs
  clear T0 hv0 ho0 hK hm hq hs
  go_enter Tryd.func5, Tryd.ntmps5
  go_upto_region 3 with (go_at_call 6; (with_reducible refine (HFI.out _ HT0.out).mono ?_); rintro e w1 ⟨rfl, hT⟩; have HT1 := Lib.hid (HT0.out.trans hT (by simp)); have HV1 := Lib.hid (hT.keep HV0.out (by simp)); have HO1 := Lib.hid (hT.keep HO0.out (by simp)); clear hT)
  obtain ⟨⟨v0, v1, v2, v3, v4, v5, v6⟩, -⟩ := ver_cells HV1.out
  obtain ⟨o0, o1, o2, o3⟩ := op_cells HO1.out
  go_cut [28] from 16 to 28 (fun x W => x = .bool false ∧ W = w1)
  case first =>
    by_cases q0 : q = 0
    · have t0 : (q == 0) = true := by simpa using q0
      by_cases l0 : 0 < ql
      · have t1 : decide (0 < ql) = true := by simpa using l0
        clear q0 l0
        go_wp2_with fail
        go_meet
        exact ⟨rfl, rfl⟩
      · have t1 : decide (0 < ql) = false := by simpa using l0
        clear q0 l0
        go_wp2_with fail
        go_meet
        exact ⟨rfl, rfl⟩
    · have t0 : (q == 0) = false := by simpa using q0
      clear q0
      go_wp2_with fail
      go_meet
      exact ⟨rfl, rfl⟩
  case rest =>
    obtain ⟨rfl, hwc⟩ := hcut
    rw [hwc]
    clear hwc
    cases hr : rightV ml fr ql sl with
    | false =>
      have HNW := Lib.hid (fun W => New_wrong m ml q fr ql s sl hr W)
      clear hr
      go_wp2_with (go_at_call 9; (with_reducible refine (HNW.out _).mono ?_); rintro e w2 ⟨rfl, hT⟩; have HT2 := Lib.hid (HT1.out.trans hT (by simp)); clear hT)
      go_ret
      exact ⟨rfl, HT2.out⟩
    | true =>
      have HNW := Lib.hid (fun W => New_any m ml q fr ql s sl HM.out HQ.out HS.out hr W)
      have HFL := Lib.hid (flat_new (m := m) (q := q) (s := s) hr)
      clear hr
      go_upto_region 8 with (go_at_call 9; (with_reducible refine (HNW.out _).mono ?_); rintro e w5 ⟨b, S, rfl, hD, hT, hF⟩; have HD5 := Lib.hid hD; have HT5 := Lib.hid hT; have HF5 := Lib.hid hF; clear hD hT hF)
      clear v0 v1 v2 v3 v4 v5 v6 o0 o1 o2 o3
      have HV5 := Lib.hid (HT5.out.keep HV1.out (by simp))
      have HO5 := Lib.hid (HT5.out.keep HO1.out (by simp))
      obtain ⟨o0, o1, o2, o3⟩ := op_cells HO5.out
      have hz5 := (Array.getElem?_eq_some_iff.1 HO5.out).1
      obtain ⟨D', x, y, z, hap⟩ : ∃ D' x y z, (Dr.new m ml q fr ql s sl).apply (Ops.opT.rightB 0 k a b2) 0 k a b2 = (D', (x, y), z) := ⟨_, _, _, _, rfl⟩
      have hAP := apply_flat HD5.out (HKN.out _ (HT1.out.trans HT5.out (by simp))) HFL.out (by omega) 0 k a b2 (by omega)
      rw [hap] at hAP
      have HAP : Hid (Calls Tryd.prog 14 #[.pointer (some ⟨b, 0, none⟩), .agg #[.int .i64 0, .int .i64 k, .int .i64 a, .int .i64 b2]] w5 fun e w' => e = .returned (.tuple #[.agg #[.int .i64 x, .int .i64 y], .int .u64 z]) ∧ ∃ S', Aft w5 b S D' 4 S' w') := Lib.hid hAP
      have HE := Lib.hid hap
      clear hAP hap
      go_upto_region 9 with (go_at_call 14; (with_reducible refine (HAP.out).mono ?_); rintro e w6 ⟨rfl, S6, hA⟩; have HA6 := Lib.hid hA; clear hA)
      have hT7 : Frm.Turn [] w1 (w6.alloc (.cells #[.int .i64 x, .int .i64 y] 52)) := (HT5.out.trans HA6.out.turn (fun k hk => .inr (HF5.out k hk))).alloc _
      have hD7 := HA6.out.at_.step ((Frm.Turn.refl [] w6).alloc (.cells #[.int .i64 x, .int .i64 y] 52))
      clear o0 o1 o2 o3 hz5
      generalize w6.alloc _ = W7 at hT7 hD7 ⊢
      have HT7 := Lib.hid hT7
      have HD7 := Lib.hid hD7
      have hvr := Version_any hD7
      obtain ⟨m', hm'⟩ : ∃ m', m' = D'.told (D'.at (none, 0)) := ⟨_, rfl⟩
      obtain ⟨ml', hml'⟩ : ∃ ml', ml' = D'.len 0 := ⟨_, rfl⟩
      obtain ⟨q', hq'⟩ : ∃ q', q' = D'.told (D'.at (none, 1)) := ⟨_, rfl⟩
      obtain ⟨fr', hfr'⟩ : ∃ fr', fr' = D'.front := ⟨_, rfl⟩
      obtain ⟨ql', hql'⟩ : ∃ ql', ql' = D'.len 1 := ⟨_, rfl⟩
      obtain ⟨s', hs'⟩ : ∃ s', s' = D'.told (D'.at (none, 2)) := ⟨_, rfl⟩
      obtain ⟨sl', hsl'⟩ : ∃ sl', sl' = D'.len 2 := ⟨_, rfl⟩
      unfold Dr.verV Drf.verV at hvr
      rw [← hm', ← hml', ← hq', ← hfr', ← hql', ← hs', ← hsl'] at hvr
      have HVR := Lib.hid hvr
      have H0 := Lib.hid hm'
      have H0l := Lib.hid hml'
      have H1 := Lib.hid hq'
      have H1l := Lib.hid hql'
      have H1f := Lib.hid hfr'
      have H2 := Lib.hid hs'
      have H2l := Lib.hid hsl'
      clear hT7 hD7 hvr hm' hml' hq' hfr' hql' hs' hsl'
      go_upto_region 10 with (go_at_call 24; (with_reducible refine (HVR.out).mono ?_); rintro e w8 ⟨rfl, hT⟩; have HT8 := Lib.hid hT; clear hT)
      have hT9 : Frm.Turn [] W7 (w8.alloc (.cells #[.int .u64 m', .int .i64 ml', .int .u64 q', .int .i64 fr', .int .i64 ql', .int .u64 s', .int .i64 sl'] 34)) := HT8.out.alloc _
      have h9 := heap_alloc_new w8 (.cells #[.int .u64 m', .int .i64 ml', .int .u64 q', .int .i64 fr', .int .i64 ql', .int .u64 s', .int .i64 sl'] 34)
      generalize w8.alloc _ = W9 at hT9 h9 ⊢
      generalize w8.heap.size = g9 at h9 ⊢
      have hT19 := HT7.out.trans hT9 (by simp)
      have HD9 := Lib.hid (HD7.out.step hT9)
      have HV9 := Lib.hid (hT19.keep HV1.out (by simp))
      have HO9 := Lib.hid (hT19.keep HO1.out (by simp))
      have H9 := Lib.hid h9
      have HT9 := Lib.hid (HT1.out.trans hT19 (by simp))
      obtain ⟨⟨v0, v1, v2, v3, v4, v5, v6⟩, -⟩ := ver_cells HV9.out
      obtain ⟨o0, o1, o2, o3⟩ := op_cells HO9.out
      obtain ⟨⟨u0, u1, u2, u3, u4, u5, u6⟩, -⟩ := ver_cells h9
      clear hT9 h9 hT19
      by_cases hz : z = 0
      · have tz : (z != 0) = false := by simpa using hz
        clear hz
        have hDD : D' = (Dr.new m ml q fr ql s sl) := by have := apply_ask HFL.out (r := Ops.opT.rightB 0 k a b2) (c := 0) (k := k) (a := a) (b := b2) (by omega); rw [HE.out] at this; exact this
        subst hDD
        obtain rfl : m = m' := (H0.out).symm
        obtain rfl : ml = ml' := (H0l.out).symm
        obtain rfl : q = q' := (H1.out).symm
        obtain rfl : fr = fr' := (H1f.out).symm
        obtain rfl : ql = ql' := (H1l.out).symm
        obtain rfl : s = s' := (H2.out).symm
        obtain rfl : sl = sl' := (H2l.out).symm
        have hnx := Next_any HD9.out (by omega)
        rw [new_next] at hnx
        have HNX := Lib.hid hnx
        have HDR := Lib.hid (fun W (hT : Frm.Turn [] W9 W) => show Calls Tryd.prog 23 #[.pointer (some ⟨b, 0, none⟩)] W (fun e w' => (∃ a c, e = .returned (.slice a 0 c)) ∧ Frm.Turn [] W w') from (Dropped_any (HD9.out.step hT) (by omega)).mono fun e w' ⟨v, he, ho, hT'⟩ => by
          obtain ⟨a, c, rfl⟩ := Frm.row_form ho
          exact ⟨⟨a, c, he⟩, hT'⟩)
        clear hnx
        go_upto_region 29 with (go_at_call 21; (with_reducible refine (HNX.out).mono ?_); rintro e w10 ⟨rfl, hT⟩; have HT10 := Lib.hid hT; clear hT)
        have hT11 : Frm.Turn [] W9 (w10.alloc (.cells #[.int .u64 0, .int .u64 0, .int .u64 0, .int .u64 0] 58)) := HT10.out.alloc _
        generalize w10.alloc _ = W11 at hT11 ⊢
        have HT11 := Lib.hid hT11
        clear v0 v1 v2 v3 v4 v5 v6 o0 o1 o2 o3 u0 u1 u2 u3 u4 u5 u6
        obtain ⟨⟨v0, v1, v2, v3, v4, v5, v6⟩, -⟩ := ver_cells (hT11.keep HV9.out (by simp))
        obtain ⟨⟨u0, u1, u2, u3, u4, u5, u6⟩, -⟩ := ver_cells (hT11.keep H9.out (by simp))
        clear hT11
        go_wp2_with (go_at_call 23; (with_reducible refine (HDR.out _ HT11.out).mono ?_); rintro e w12 ⟨⟨a12, c12, rfl⟩, hT⟩; have HT12 := Lib.hid (HT11.out.trans hT (by simp)); clear hT)
        go_ret
        exact ⟨rfl, HT9.out.trans HT12.out (by simp)⟩
      · have tz : (z != 0) = true := by simpa using hz
        have hDD : D' = (Dr.new m ml q fr ql s sl) := by have := apply_need (D := (Dr.new m ml q fr ql s sl)) (r := Ops.opT.rightB 0 k a b2) (c := 0) (k := k) (a := a) (b := b2) (by rw [HE.out]; exact hz); rw [HE.out] at this; exact this
        clear hz
        subst hDD
        obtain rfl : m = m' := (H0.out).symm
        obtain rfl : ml = ml' := (H0l.out).symm
        obtain rfl : q = q' := (H1.out).symm
        obtain rfl : fr = fr' := (H1f.out).symm
        obtain rfl : ql = ql' := (H1l.out).symm
        obtain rfl : s = s' := (H2.out).symm
        obtain rfl : sl = sl' := (H2l.out).symm
        have hnx := Next_any HD9.out (by omega)
        rw [new_next] at hnx
        have HNX := Lib.hid hnx
        have HDR := Lib.hid (fun W (hT : Frm.Turn [] W9 W) => show Calls Tryd.prog 23 #[.pointer (some ⟨b, 0, none⟩)] W (fun e w' => (∃ a c, e = .returned (.slice a 0 c)) ∧ Frm.Turn [] W w') from (Dropped_any (HD9.out.step hT) (by omega)).mono fun e w' ⟨v, he, ho, hT'⟩ => by
          obtain ⟨a, c, rfl⟩ := Frm.row_form ho
          exact ⟨⟨a, c, he⟩, hT'⟩)
        clear hnx
        go_upto_region 12 with (go_at_call 21; (with_reducible refine (HNX.out).mono ?_); rintro e w10 ⟨rfl, hT⟩; have HT10 := Lib.hid hT; clear hT)
        have hT11 : Frm.Turn [] W9 (w10.alloc (.cells #[.int .u64 0, .int .u64 0, .int .u64 0, .int .u64 0] 58)) := HT10.out.alloc _
        generalize w10.alloc _ = W11 at hT11 ⊢
        have HT11 := Lib.hid hT11
        clear v0 v1 v2 v3 v4 v5 v6 o0 o1 o2 o3 u0 u1 u2 u3 u4 u5 u6
        obtain ⟨⟨v0, v1, v2, v3, v4, v5, v6⟩, -⟩ := ver_cells (hT11.keep HV9.out (by simp))
        obtain ⟨⟨u0, u1, u2, u3, u4, u5, u6⟩, -⟩ := ver_cells (hT11.keep H9.out (by simp))
        clear hT11
        go_wp2_with (go_at_call 23; (with_reducible refine (HDR.out _ HT11.out).mono ?_); rintro e w12 ⟨⟨a12, c12, rfl⟩, hT⟩; have HT12 := Lib.hid (HT11.out.trans hT (by simp)); clear hT)
        go_ret
        exact ⟨rfl, HT9.out.trans HT12.out (by simp)⟩
set_option maxRecDepth 100000 in
set_option maxHeartbeats 8000000 in
theorem shares_1 {m ml q fr ql s sl k a b2 : Int} (hm : W64 m) (hq : W64 q) (hs : W64 s) (w : World) (hK : Ops.Kn w) :
    Calls Tryd.prog 5 #[.agg #[.int .u64 m, .int .i64 ml, .int .u64 q, .int .i64 fr, .int .i64 ql, .int .u64 s, .int .i64 sl], .agg #[.int .i64 1, .int .i64 k, .int .i64 a, .int .i64 b2]] w fun e w' => e = .returned (.bool true) ∧ Frm.Turn [] w w' := by
  have T0 : Frm.Turn [] w ((w.alloc (.cells #[.int .u64 m, .int .i64 ml, .int .u64 q, .int .i64 fr, .int .i64 ql, .int .u64 s, .int .i64 sl] 34)).alloc (.cells #[.int .i64 1, .int .i64 k, .int .i64 a, .int .i64 b2] 44)) := ((Frm.Turn.refl [] w).alloc _).alloc _
  have hv0 : ((w.alloc (.cells #[.int .u64 m, .int .i64 ml, .int .u64 q, .int .i64 fr, .int .i64 ql, .int .u64 s, .int .i64 sl] 34)).alloc (.cells #[.int .i64 1, .int .i64 k, .int .i64 a, .int .i64 b2] 44)).heap[w.heap.size]? = some (.cells #[.int .u64 m, .int .i64 ml, .int .u64 q, .int .i64 fr, .int .i64 ql, .int .u64 s, .int .i64 sl] 34 (0, 0)) := ((Frm.Turn.refl [] _).alloc _).keep (heap_alloc_new w _) (by simp)
  have ho0 : ((w.alloc (.cells #[.int .u64 m, .int .i64 ml, .int .u64 q, .int .i64 fr, .int .i64 ql, .int .u64 s, .int .i64 sl] 34)).alloc (.cells #[.int .i64 1, .int .i64 k, .int .i64 a, .int .i64 b2] 44)).heap[w.heap.size + 1]? = some (.cells #[.int .i64 1, .int .i64 k, .int .i64 a, .int .i64 b2] 44 (0, 0)) := by
    have := heap_alloc_new (w.alloc (.cells #[.int .u64 m, .int .i64 ml, .int .u64 q, .int .i64 fr, .int .i64 ql, .int .u64 s, .int .i64 sl] 34)) (.cells #[.int .i64 1, .int .i64 k, .int .i64 a, .int .i64 b2] 44)
    rw [World.size_alloc] at this
    exact this
  have HT0 := Lib.hid T0
  have HV0 := Lib.hid hv0
  have HO0 := Lib.hid ho0
  have HFI := Lib.hid (fun W (hT : Frm.Turn [] w W) => first_any W (hK.turn hT))
  have HKN := Lib.hid (fun W (hT : Frm.Turn [] w W) => hK.turn hT)
  have HM := Lib.hid hm
  have HQ := Lib.hid hq
  have HS := Lib.hid hs
  clear T0 hv0 ho0 hK hm hq hs
  go_enter Tryd.func5, Tryd.ntmps5
  go_upto_region 3 with (go_at_call 6; (with_reducible refine (HFI.out _ HT0.out).mono ?_); rintro e w1 ⟨rfl, hT⟩; have HT1 := Lib.hid (HT0.out.trans hT (by simp)); have HV1 := Lib.hid (hT.keep HV0.out (by simp)); have HO1 := Lib.hid (hT.keep HO0.out (by simp)); clear hT)
  obtain ⟨⟨v0, v1, v2, v3, v4, v5, v6⟩, -⟩ := ver_cells HV1.out
  obtain ⟨o0, o1, o2, o3⟩ := op_cells HO1.out
  go_cut [28] from 16 to 28 (fun x W => x = .bool false ∧ W = w1)
  case first =>
    by_cases q0 : q = 0
    · have t0 : (q == 0) = true := by simpa using q0
      by_cases l0 : 0 < ql
      · have t1 : decide (0 < ql) = true := by simpa using l0
        clear q0 l0
        go_wp2_with fail
        go_meet
        exact ⟨rfl, rfl⟩
      · have t1 : decide (0 < ql) = false := by simpa using l0
        clear q0 l0
        go_wp2_with fail
        go_meet
        exact ⟨rfl, rfl⟩
    · have t0 : (q == 0) = false := by simpa using q0
      clear q0
      go_wp2_with fail
      go_meet
      exact ⟨rfl, rfl⟩
  case rest =>
    obtain ⟨rfl, hwc⟩ := hcut
    rw [hwc]
    clear hwc
    cases hr : rightV ml fr ql sl with
    | false =>
      have HNW := Lib.hid (fun W => New_wrong m ml q fr ql s sl hr W)
      clear hr
      go_wp2_with (go_at_call 9; (with_reducible refine (HNW.out _).mono ?_); rintro e w2 ⟨rfl, hT⟩; have HT2 := Lib.hid (HT1.out.trans hT (by simp)); clear hT)
      go_ret
      exact ⟨rfl, HT2.out⟩
    | true =>
      have HNW := Lib.hid (fun W => New_any m ml q fr ql s sl HM.out HQ.out HS.out hr W)
      have HFL := Lib.hid (flat_new (m := m) (q := q) (s := s) hr)
      clear hr
      go_upto_region 8 with (go_at_call 9; (with_reducible refine (HNW.out _).mono ?_); rintro e w5 ⟨b, S, rfl, hD, hT, hF⟩; have HD5 := Lib.hid hD; have HT5 := Lib.hid hT; have HF5 := Lib.hid hF; clear hD hT hF)
      clear v0 v1 v2 v3 v4 v5 v6 o0 o1 o2 o3
      have HV5 := Lib.hid (HT5.out.keep HV1.out (by simp))
      have HO5 := Lib.hid (HT5.out.keep HO1.out (by simp))
      obtain ⟨o0, o1, o2, o3⟩ := op_cells HO5.out
      have hz5 := (Array.getElem?_eq_some_iff.1 HO5.out).1
      obtain ⟨D', x, y, z, hap⟩ : ∃ D' x y z, (Dr.new m ml q fr ql s sl).apply (Ops.opT.rightB 1 k a b2) 1 k a b2 = (D', (x, y), z) := ⟨_, _, _, _, rfl⟩
      have hAP := apply_flat HD5.out (HKN.out _ (HT1.out.trans HT5.out (by simp))) HFL.out (by omega) 1 k a b2 (by omega)
      rw [hap] at hAP
      have HAP : Hid (Calls Tryd.prog 14 #[.pointer (some ⟨b, 0, none⟩), .agg #[.int .i64 1, .int .i64 k, .int .i64 a, .int .i64 b2]] w5 fun e w' => e = .returned (.tuple #[.agg #[.int .i64 x, .int .i64 y], .int .u64 z]) ∧ ∃ S', Aft w5 b S D' 4 S' w') := Lib.hid hAP
      have HE := Lib.hid hap
      clear hAP hap
      go_upto_region 9 with (go_at_call 14; (with_reducible refine (HAP.out).mono ?_); rintro e w6 ⟨rfl, S6, hA⟩; have HA6 := Lib.hid hA; clear hA)
      have hT7 : Frm.Turn [] w1 (w6.alloc (.cells #[.int .i64 x, .int .i64 y] 52)) := (HT5.out.trans HA6.out.turn (fun k hk => .inr (HF5.out k hk))).alloc _
      have hD7 := HA6.out.at_.step ((Frm.Turn.refl [] w6).alloc (.cells #[.int .i64 x, .int .i64 y] 52))
      clear o0 o1 o2 o3 hz5
      generalize w6.alloc _ = W7 at hT7 hD7 ⊢
      have HT7 := Lib.hid hT7
      have HD7 := Lib.hid hD7
      have hvr := Version_any hD7
      obtain ⟨m', hm'⟩ : ∃ m', m' = D'.told (D'.at (none, 0)) := ⟨_, rfl⟩
      obtain ⟨ml', hml'⟩ : ∃ ml', ml' = D'.len 0 := ⟨_, rfl⟩
      obtain ⟨q', hq'⟩ : ∃ q', q' = D'.told (D'.at (none, 1)) := ⟨_, rfl⟩
      obtain ⟨fr', hfr'⟩ : ∃ fr', fr' = D'.front := ⟨_, rfl⟩
      obtain ⟨ql', hql'⟩ : ∃ ql', ql' = D'.len 1 := ⟨_, rfl⟩
      obtain ⟨s', hs'⟩ : ∃ s', s' = D'.told (D'.at (none, 2)) := ⟨_, rfl⟩
      obtain ⟨sl', hsl'⟩ : ∃ sl', sl' = D'.len 2 := ⟨_, rfl⟩
      unfold Dr.verV Drf.verV at hvr
      rw [← hm', ← hml', ← hq', ← hfr', ← hql', ← hs', ← hsl'] at hvr
      have HVR := Lib.hid hvr
      have H0 := Lib.hid hm'
      have H0l := Lib.hid hml'
      have H1 := Lib.hid hq'
      have H1l := Lib.hid hql'
      have H1f := Lib.hid hfr'
      have H2 := Lib.hid hs'
      have H2l := Lib.hid hsl'
      clear hT7 hD7 hvr hm' hml' hq' hfr' hql' hs' hsl'
      go_upto_region 10 with (go_at_call 24; (with_reducible refine (HVR.out).mono ?_); rintro e w8 ⟨rfl, hT⟩; have HT8 := Lib.hid hT; clear hT)
      have hT9 : Frm.Turn [] W7 (w8.alloc (.cells #[.int .u64 m', .int .i64 ml', .int .u64 q', .int .i64 fr', .int .i64 ql', .int .u64 s', .int .i64 sl'] 34)) := HT8.out.alloc _
      have h9 := heap_alloc_new w8 (.cells #[.int .u64 m', .int .i64 ml', .int .u64 q', .int .i64 fr', .int .i64 ql', .int .u64 s', .int .i64 sl'] 34)
      generalize w8.alloc _ = W9 at hT9 h9 ⊢
      generalize w8.heap.size = g9 at h9 ⊢
      have hT19 := HT7.out.trans hT9 (by simp)
      have HD9 := Lib.hid (HD7.out.step hT9)
      have HV9 := Lib.hid (hT19.keep HV1.out (by simp))
      have HO9 := Lib.hid (hT19.keep HO1.out (by simp))
      have H9 := Lib.hid h9
      have HT9 := Lib.hid (HT1.out.trans hT19 (by simp))
      obtain ⟨⟨v0, v1, v2, v3, v4, v5, v6⟩, -⟩ := ver_cells HV9.out
      obtain ⟨o0, o1, o2, o3⟩ := op_cells HO9.out
      obtain ⟨⟨u0, u1, u2, u3, u4, u5, u6⟩, -⟩ := ver_cells h9
      clear hT9 h9 hT19
      by_cases hz : z = 0
      · have tz : (z != 0) = false := by simpa using hz
        clear hz
        obtain ⟨k0, k0l⟩ : Keeps (Dr.new m ml q fr ql s sl) D' 0 := by have := apply_keeps0 (D := (Dr.new m ml q fr ql s sl)) (r := Ops.opT.rightB 1 k a b2) (c := 1) (k := k) (a := a) (b := b2) (by omega); rw [HE.out] at this; exact this
        obtain rfl : m = m' := (H0.out.trans (by rw [k0]; rfl)).symm
        obtain rfl : ml = ml' := (H0l.out.trans (by rw [k0l]; rfl)).symm
        clear k0 k0l
        obtain ⟨k2, k2l⟩ : Keeps (Dr.new m ml q fr ql s sl) D' 2 := by have := apply_keeps2 (D := (Dr.new m ml q fr ql s sl)) (r := Ops.opT.rightB 1 k a b2) (c := 1) (k := k) (a := a) (b := b2) (by omega); rw [HE.out] at this; exact this
        obtain rfl : s = s' := (H2.out.trans (by rw [k2]; rfl)).symm
        obtain rfl : sl = sl' := (H2l.out.trans (by rw [k2l]; rfl)).symm
        clear k2 k2l
        go_wp2
        go_ret
        exact ⟨rfl, HT9.out⟩
      · have tz : (z != 0) = true := by simpa using hz
        have hDD : D' = (Dr.new m ml q fr ql s sl) := by have := apply_need (D := (Dr.new m ml q fr ql s sl)) (r := Ops.opT.rightB 1 k a b2) (c := 1) (k := k) (a := a) (b := b2) (by rw [HE.out]; exact hz); rw [HE.out] at this; exact this
        clear hz
        subst hDD
        obtain rfl : m = m' := (H0.out).symm
        obtain rfl : ml = ml' := (H0l.out).symm
        obtain rfl : q = q' := (H1.out).symm
        obtain rfl : fr = fr' := (H1f.out).symm
        obtain rfl : ql = ql' := (H1l.out).symm
        obtain rfl : s = s' := (H2.out).symm
        obtain rfl : sl = sl' := (H2l.out).symm
        have hnx := Next_any HD9.out (by omega)
        rw [new_next] at hnx
        have HNX := Lib.hid hnx
        have HDR := Lib.hid (fun W (hT : Frm.Turn [] W9 W) => show Calls Tryd.prog 23 #[.pointer (some ⟨b, 0, none⟩)] W (fun e w' => (∃ a c, e = .returned (.slice a 0 c)) ∧ Frm.Turn [] W w') from (Dropped_any (HD9.out.step hT) (by omega)).mono fun e w' ⟨v, he, ho, hT'⟩ => by
          obtain ⟨a, c, rfl⟩ := Frm.row_form ho
          exact ⟨⟨a, c, he⟩, hT'⟩)
        clear hnx
        go_upto_region 12 with (go_at_call 21; (with_reducible refine (HNX.out).mono ?_); rintro e w10 ⟨rfl, hT⟩; have HT10 := Lib.hid hT; clear hT)
        have hT11 : Frm.Turn [] W9 (w10.alloc (.cells #[.int .u64 0, .int .u64 0, .int .u64 0, .int .u64 0] 58)) := HT10.out.alloc _
        generalize w10.alloc _ = W11 at hT11 ⊢
        have HT11 := Lib.hid hT11
        clear v0 v1 v2 v3 v4 v5 v6 o0 o1 o2 o3 u0 u1 u2 u3 u4 u5 u6
        obtain ⟨⟨v0, v1, v2, v3, v4, v5, v6⟩, -⟩ := ver_cells (hT11.keep HV9.out (by simp))
        obtain ⟨⟨u0, u1, u2, u3, u4, u5, u6⟩, -⟩ := ver_cells (hT11.keep H9.out (by simp))
        clear hT11
        go_wp2_with (go_at_call 23; (with_reducible refine (HDR.out _ HT11.out).mono ?_); rintro e w12 ⟨⟨a12, c12, rfl⟩, hT⟩; have HT12 := Lib.hid (HT11.out.trans hT (by simp)); clear hT)
        go_ret
        exact ⟨rfl, HT9.out.trans HT12.out (by simp)⟩
set_option maxRecDepth 100000 in
set_option maxHeartbeats 8000000 in
theorem shares_2 {m ml q fr ql s sl k a b2 : Int} (hm : W64 m) (hq : W64 q) (hs : W64 s) (w : World) (hK : Ops.Kn w) :
    Calls Tryd.prog 5 #[.agg #[.int .u64 m, .int .i64 ml, .int .u64 q, .int .i64 fr, .int .i64 ql, .int .u64 s, .int .i64 sl], .agg #[.int .i64 2, .int .i64 k, .int .i64 a, .int .i64 b2]] w fun e w' => e = .returned (.bool true) ∧ Frm.Turn [] w w' := by
  have T0 : Frm.Turn [] w ((w.alloc (.cells #[.int .u64 m, .int .i64 ml, .int .u64 q, .int .i64 fr, .int .i64 ql, .int .u64 s, .int .i64 sl] 34)).alloc (.cells #[.int .i64 2, .int .i64 k, .int .i64 a, .int .i64 b2] 44)) := ((Frm.Turn.refl [] w).alloc _).alloc _
  have hv0 : ((w.alloc (.cells #[.int .u64 m, .int .i64 ml, .int .u64 q, .int .i64 fr, .int .i64 ql, .int .u64 s, .int .i64 sl] 34)).alloc (.cells #[.int .i64 2, .int .i64 k, .int .i64 a, .int .i64 b2] 44)).heap[w.heap.size]? = some (.cells #[.int .u64 m, .int .i64 ml, .int .u64 q, .int .i64 fr, .int .i64 ql, .int .u64 s, .int .i64 sl] 34 (0, 0)) := ((Frm.Turn.refl [] _).alloc _).keep (heap_alloc_new w _) (by simp)
  have ho0 : ((w.alloc (.cells #[.int .u64 m, .int .i64 ml, .int .u64 q, .int .i64 fr, .int .i64 ql, .int .u64 s, .int .i64 sl] 34)).alloc (.cells #[.int .i64 2, .int .i64 k, .int .i64 a, .int .i64 b2] 44)).heap[w.heap.size + 1]? = some (.cells #[.int .i64 2, .int .i64 k, .int .i64 a, .int .i64 b2] 44 (0, 0)) := by
    have := heap_alloc_new (w.alloc (.cells #[.int .u64 m, .int .i64 ml, .int .u64 q, .int .i64 fr, .int .i64 ql, .int .u64 s, .int .i64 sl] 34)) (.cells #[.int .i64 2, .int .i64 k, .int .i64 a, .int .i64 b2] 44)
    rw [World.size_alloc] at this
    exact this
  have HT0 := Lib.hid T0
  have HV0 := Lib.hid hv0
  have HO0 := Lib.hid ho0
  have HFI := Lib.hid (fun W (hT : Frm.Turn [] w W) => first_any W (hK.turn hT))
  have HKN := Lib.hid (fun W (hT : Frm.Turn [] w W) => hK.turn hT)
  have HM := Lib.hid hm
  have HQ := Lib.hid hq
  have HS := Lib.hid hs
  clear T0 hv0 ho0 hK hm hq hs
  go_enter Tryd.func5, Tryd.ntmps5
  go_upto_region 3 with (go_at_call 6; (with_reducible refine (HFI.out _ HT0.out).mono ?_); rintro e w1 ⟨rfl, hT⟩; have HT1 := Lib.hid (HT0.out.trans hT (by simp)); have HV1 := Lib.hid (hT.keep HV0.out (by simp)); have HO1 := Lib.hid (hT.keep HO0.out (by simp)); clear hT)
  obtain ⟨⟨v0, v1, v2, v3, v4, v5, v6⟩, -⟩ := ver_cells HV1.out
  obtain ⟨o0, o1, o2, o3⟩ := op_cells HO1.out
  by_cases hgo : q = 0 ∧ 0 < ql
  · have t0 : (q == 0) = true := by simpa using hgo.1
    have t1 : decide (0 < ql) = true := by simpa using hgo.2
    clear hgo
    go_wp2
    go_ret
    exact ⟨rfl, HT1.out⟩
  go_cut [28] from 16 to 28 (fun x W => x = .bool false ∧ W = w1)
  case first =>
    by_cases q0 : q = 0
    · have t0 : (q == 0) = true := by simpa using q0
      by_cases l0 : 0 < ql
      · exact absurd ⟨q0, l0⟩ hgo
      · have t1 : decide (0 < ql) = false := by simpa using l0
        clear q0 l0 hgo
        go_wp2_with fail
        go_meet
        exact ⟨rfl, rfl⟩
    · have t0 : (q == 0) = false := by simpa using q0
      clear q0 hgo
      go_wp2_with fail
      go_meet
      exact ⟨rfl, rfl⟩
  case rest =>
    obtain ⟨rfl, hwc⟩ := hcut
    rw [hwc]
    clear hwc
    cases hr : rightV ml fr ql sl with
    | false =>
      have HNW := Lib.hid (fun W => New_wrong m ml q fr ql s sl hr W)
      clear hr
      go_wp2_with (go_at_call 9; (with_reducible refine (HNW.out _).mono ?_); rintro e w2 ⟨rfl, hT⟩; have HT2 := Lib.hid (HT1.out.trans hT (by simp)); clear hT)
      go_ret
      exact ⟨rfl, HT2.out⟩
    | true =>
      have HNW := Lib.hid (fun W => New_any m ml q fr ql s sl HM.out HQ.out HS.out hr W)
      have HFL := Lib.hid (flat_new (m := m) (q := q) (s := s) hr)
      have HDQ : Hid ((2 : Int) = 2 → (Dr.new m ml q fr ql s sl).len 1 = 0 ∨ (Dr.new m ml q fr ql s sl).at (none, 1) ≠ ln0) := Lib.hid fun _ => by
        have h3 := (HFL.out.len 1 (by omega)).1
        have h4 : (Dr.new m ml q fr ql s sl).len 1 = ql := rfl
        by_cases q0 : q = 0
        · exact .inl (by rw [h4] at h3 ⊢; have := hgo; omega)
        · exact .inr (fun e => q0 (congrArg Ln.w e))
      clear hgo
      clear hr
      go_upto_region 8 with (go_at_call 9; (with_reducible refine (HNW.out _).mono ?_); rintro e w5 ⟨b, S, rfl, hD, hT, hF⟩; have HD5 := Lib.hid hD; have HT5 := Lib.hid hT; have HF5 := Lib.hid hF; clear hD hT hF)
      clear v0 v1 v2 v3 v4 v5 v6 o0 o1 o2 o3
      have HV5 := Lib.hid (HT5.out.keep HV1.out (by simp))
      have HO5 := Lib.hid (HT5.out.keep HO1.out (by simp))
      obtain ⟨o0, o1, o2, o3⟩ := op_cells HO5.out
      have hz5 := (Array.getElem?_eq_some_iff.1 HO5.out).1
      obtain ⟨D', x, y, z, hap⟩ : ∃ D' x y z, (Dr.new m ml q fr ql s sl).apply (Ops.opT.rightB 2 k a b2) 2 k a b2 = (D', (x, y), z) := ⟨_, _, _, _, rfl⟩
      have hAP := apply_flat HD5.out (HKN.out _ (HT1.out.trans HT5.out (by simp))) HFL.out (by omega) 2 k a b2 (fun _ => HDQ.out trivial)
      rw [hap] at hAP
      have HAP : Hid (Calls Tryd.prog 14 #[.pointer (some ⟨b, 0, none⟩), .agg #[.int .i64 2, .int .i64 k, .int .i64 a, .int .i64 b2]] w5 fun e w' => e = .returned (.tuple #[.agg #[.int .i64 x, .int .i64 y], .int .u64 z]) ∧ ∃ S', Aft w5 b S D' 4 S' w') := Lib.hid hAP
      have HE := Lib.hid hap
      clear hAP hap
      go_upto_region 9 with (go_at_call 14; (with_reducible refine (HAP.out).mono ?_); rintro e w6 ⟨rfl, S6, hA⟩; have HA6 := Lib.hid hA; clear hA)
      have hT7 : Frm.Turn [] w1 (w6.alloc (.cells #[.int .i64 x, .int .i64 y] 52)) := (HT5.out.trans HA6.out.turn (fun k hk => .inr (HF5.out k hk))).alloc _
      have hD7 := HA6.out.at_.step ((Frm.Turn.refl [] w6).alloc (.cells #[.int .i64 x, .int .i64 y] 52))
      clear o0 o1 o2 o3 hz5
      generalize w6.alloc _ = W7 at hT7 hD7 ⊢
      have HT7 := Lib.hid hT7
      have HD7 := Lib.hid hD7
      have hvr := Version_any hD7
      obtain ⟨m', hm'⟩ : ∃ m', m' = D'.told (D'.at (none, 0)) := ⟨_, rfl⟩
      obtain ⟨ml', hml'⟩ : ∃ ml', ml' = D'.len 0 := ⟨_, rfl⟩
      obtain ⟨q', hq'⟩ : ∃ q', q' = D'.told (D'.at (none, 1)) := ⟨_, rfl⟩
      obtain ⟨fr', hfr'⟩ : ∃ fr', fr' = D'.front := ⟨_, rfl⟩
      obtain ⟨ql', hql'⟩ : ∃ ql', ql' = D'.len 1 := ⟨_, rfl⟩
      obtain ⟨s', hs'⟩ : ∃ s', s' = D'.told (D'.at (none, 2)) := ⟨_, rfl⟩
      obtain ⟨sl', hsl'⟩ : ∃ sl', sl' = D'.len 2 := ⟨_, rfl⟩
      unfold Dr.verV Drf.verV at hvr
      rw [← hm', ← hml', ← hq', ← hfr', ← hql', ← hs', ← hsl'] at hvr
      have HVR := Lib.hid hvr
      have H0 := Lib.hid hm'
      have H0l := Lib.hid hml'
      have H1 := Lib.hid hq'
      have H1l := Lib.hid hql'
      have H1f := Lib.hid hfr'
      have H2 := Lib.hid hs'
      have H2l := Lib.hid hsl'
      clear hT7 hD7 hvr hm' hml' hq' hfr' hql' hs' hsl'
      go_upto_region 10 with (go_at_call 24; (with_reducible refine (HVR.out).mono ?_); rintro e w8 ⟨rfl, hT⟩; have HT8 := Lib.hid hT; clear hT)
      have hT9 : Frm.Turn [] W7 (w8.alloc (.cells #[.int .u64 m', .int .i64 ml', .int .u64 q', .int .i64 fr', .int .i64 ql', .int .u64 s', .int .i64 sl'] 34)) := HT8.out.alloc _
      have h9 := heap_alloc_new w8 (.cells #[.int .u64 m', .int .i64 ml', .int .u64 q', .int .i64 fr', .int .i64 ql', .int .u64 s', .int .i64 sl'] 34)
      generalize w8.alloc _ = W9 at hT9 h9 ⊢
      generalize w8.heap.size = g9 at h9 ⊢
      have hT19 := HT7.out.trans hT9 (by simp)
      have HD9 := Lib.hid (HD7.out.step hT9)
      have HV9 := Lib.hid (hT19.keep HV1.out (by simp))
      have HO9 := Lib.hid (hT19.keep HO1.out (by simp))
      have H9 := Lib.hid h9
      have HT9 := Lib.hid (HT1.out.trans hT19 (by simp))
      obtain ⟨⟨v0, v1, v2, v3, v4, v5, v6⟩, -⟩ := ver_cells HV9.out
      obtain ⟨o0, o1, o2, o3⟩ := op_cells HO9.out
      obtain ⟨⟨u0, u1, u2, u3, u4, u5, u6⟩, -⟩ := ver_cells h9
      clear hT9 h9 hT19
      by_cases hz : z = 0
      · have tz : (z != 0) = false := by simpa using hz
        clear hz
        obtain ⟨k0, k0l⟩ : Keeps (Dr.new m ml q fr ql s sl) D' 0 := by have := apply_keeps0 (D := (Dr.new m ml q fr ql s sl)) (r := Ops.opT.rightB 2 k a b2) (c := 2) (k := k) (a := a) (b := b2) (by omega); rw [HE.out] at this; exact this
        obtain rfl : m = m' := (H0.out.trans (by rw [k0]; rfl)).symm
        obtain rfl : ml = ml' := (H0l.out.trans (by rw [k0l]; rfl)).symm
        clear k0 k0l
        obtain ⟨k2, k2l⟩ : Keeps (Dr.new m ml q fr ql s sl) D' 2 := by have := apply_keeps2 (D := (Dr.new m ml q fr ql s sl)) (r := Ops.opT.rightB 2 k a b2) (c := 2) (k := k) (a := a) (b := b2) (by omega); rw [HE.out] at this; exact this
        obtain rfl : s = s' := (H2.out.trans (by rw [k2]; rfl)).symm
        obtain rfl : sl = sl' := (H2l.out.trans (by rw [k2l]; rfl)).symm
        clear k2 k2l
        go_wp2
        go_ret
        exact ⟨rfl, HT9.out⟩
      · have tz : (z != 0) = true := by simpa using hz
        have hDD : D' = (Dr.new m ml q fr ql s sl) := by have := apply_need (D := (Dr.new m ml q fr ql s sl)) (r := Ops.opT.rightB 2 k a b2) (c := 2) (k := k) (a := a) (b := b2) (by rw [HE.out]; exact hz); rw [HE.out] at this; exact this
        clear hz
        subst hDD
        obtain rfl : m = m' := (H0.out).symm
        obtain rfl : ml = ml' := (H0l.out).symm
        obtain rfl : q = q' := (H1.out).symm
        obtain rfl : fr = fr' := (H1f.out).symm
        obtain rfl : ql = ql' := (H1l.out).symm
        obtain rfl : s = s' := (H2.out).symm
        obtain rfl : sl = sl' := (H2l.out).symm
        have hnx := Next_any HD9.out (by omega)
        rw [new_next] at hnx
        have HNX := Lib.hid hnx
        have HDR := Lib.hid (fun W (hT : Frm.Turn [] W9 W) => show Calls Tryd.prog 23 #[.pointer (some ⟨b, 0, none⟩)] W (fun e w' => (∃ a c, e = .returned (.slice a 0 c)) ∧ Frm.Turn [] W w') from (Dropped_any (HD9.out.step hT) (by omega)).mono fun e w' ⟨v, he, ho, hT'⟩ => by
          obtain ⟨a, c, rfl⟩ := Frm.row_form ho
          exact ⟨⟨a, c, he⟩, hT'⟩)
        clear hnx
        go_upto_region 12 with (go_at_call 21; (with_reducible refine (HNX.out).mono ?_); rintro e w10 ⟨rfl, hT⟩; have HT10 := Lib.hid hT; clear hT)
        have hT11 : Frm.Turn [] W9 (w10.alloc (.cells #[.int .u64 0, .int .u64 0, .int .u64 0, .int .u64 0] 58)) := HT10.out.alloc _
        generalize w10.alloc _ = W11 at hT11 ⊢
        have HT11 := Lib.hid hT11
        clear v0 v1 v2 v3 v4 v5 v6 o0 o1 o2 o3 u0 u1 u2 u3 u4 u5 u6
        obtain ⟨⟨v0, v1, v2, v3, v4, v5, v6⟩, -⟩ := ver_cells (hT11.keep HV9.out (by simp))
        obtain ⟨⟨u0, u1, u2, u3, u4, u5, u6⟩, -⟩ := ver_cells (hT11.keep H9.out (by simp))
        clear hT11
        go_wp2_with (go_at_call 23; (with_reducible refine (HDR.out _ HT11.out).mono ?_); rintro e w12 ⟨⟨a12, c12, rfl⟩, hT⟩; have HT12 := Lib.hid (HT11.out.trans hT (by simp)); clear hT)
        go_ret
        exact ⟨rfl, HT9.out.trans HT12.out (by simp)⟩
set_option maxRecDepth 100000 in
set_option maxHeartbeats 8000000 in
theorem shares_3 {m ml q fr ql s sl k a b2 : Int} (hm : W64 m) (hq : W64 q) (hs : W64 s) (w : World) (hK : Ops.Kn w) :
    Calls Tryd.prog 5 #[.agg #[.int .u64 m, .int .i64 ml, .int .u64 q, .int .i64 fr, .int .i64 ql, .int .u64 s, .int .i64 sl], .agg #[.int .i64 3, .int .i64 k, .int .i64 a, .int .i64 b2]] w fun e w' => e = .returned (.bool true) ∧ Frm.Turn [] w w' := by
  have T0 : Frm.Turn [] w ((w.alloc (.cells #[.int .u64 m, .int .i64 ml, .int .u64 q, .int .i64 fr, .int .i64 ql, .int .u64 s, .int .i64 sl] 34)).alloc (.cells #[.int .i64 3, .int .i64 k, .int .i64 a, .int .i64 b2] 44)) := ((Frm.Turn.refl [] w).alloc _).alloc _
  have hv0 : ((w.alloc (.cells #[.int .u64 m, .int .i64 ml, .int .u64 q, .int .i64 fr, .int .i64 ql, .int .u64 s, .int .i64 sl] 34)).alloc (.cells #[.int .i64 3, .int .i64 k, .int .i64 a, .int .i64 b2] 44)).heap[w.heap.size]? = some (.cells #[.int .u64 m, .int .i64 ml, .int .u64 q, .int .i64 fr, .int .i64 ql, .int .u64 s, .int .i64 sl] 34 (0, 0)) := ((Frm.Turn.refl [] _).alloc _).keep (heap_alloc_new w _) (by simp)
  have ho0 : ((w.alloc (.cells #[.int .u64 m, .int .i64 ml, .int .u64 q, .int .i64 fr, .int .i64 ql, .int .u64 s, .int .i64 sl] 34)).alloc (.cells #[.int .i64 3, .int .i64 k, .int .i64 a, .int .i64 b2] 44)).heap[w.heap.size + 1]? = some (.cells #[.int .i64 3, .int .i64 k, .int .i64 a, .int .i64 b2] 44 (0, 0)) := by
    have := heap_alloc_new (w.alloc (.cells #[.int .u64 m, .int .i64 ml, .int .u64 q, .int .i64 fr, .int .i64 ql, .int .u64 s, .int .i64 sl] 34)) (.cells #[.int .i64 3, .int .i64 k, .int .i64 a, .int .i64 b2] 44)
    rw [World.size_alloc] at this
    exact this
  have HT0 := Lib.hid T0
  have HV0 := Lib.hid hv0
  have HO0 := Lib.hid ho0
  have HFI := Lib.hid (fun W (hT : Frm.Turn [] w W) => first_any W (hK.turn hT))
  have HKN := Lib.hid (fun W (hT : Frm.Turn [] w W) => hK.turn hT)
  have HM := Lib.hid hm
  have HQ := Lib.hid hq
  have HS := Lib.hid hs
  clear T0 hv0 ho0 hK hm hq hs
  go_enter Tryd.func5, Tryd.ntmps5
  go_upto_region 3 with (go_at_call 6; (with_reducible refine (HFI.out _ HT0.out).mono ?_); rintro e w1 ⟨rfl, hT⟩; have HT1 := Lib.hid (HT0.out.trans hT (by simp)); have HV1 := Lib.hid (hT.keep HV0.out (by simp)); have HO1 := Lib.hid (hT.keep HO0.out (by simp)); clear hT)
  obtain ⟨⟨v0, v1, v2, v3, v4, v5, v6⟩, -⟩ := ver_cells HV1.out
  obtain ⟨o0, o1, o2, o3⟩ := op_cells HO1.out
  go_cut [28] from 16 to 28 (fun x W => x = .bool false ∧ W = w1)
  case first =>
    by_cases q0 : q = 0
    · have t0 : (q == 0) = true := by simpa using q0
      by_cases l0 : 0 < ql
      · have t1 : decide (0 < ql) = true := by simpa using l0
        clear q0 l0
        go_wp2_with fail
        go_meet
        exact ⟨rfl, rfl⟩
      · have t1 : decide (0 < ql) = false := by simpa using l0
        clear q0 l0
        go_wp2_with fail
        go_meet
        exact ⟨rfl, rfl⟩
    · have t0 : (q == 0) = false := by simpa using q0
      clear q0
      go_wp2_with fail
      go_meet
      exact ⟨rfl, rfl⟩
  case rest =>
    obtain ⟨rfl, hwc⟩ := hcut
    rw [hwc]
    clear hwc
    cases hr : rightV ml fr ql sl with
    | false =>
      have HNW := Lib.hid (fun W => New_wrong m ml q fr ql s sl hr W)
      clear hr
      go_wp2_with (go_at_call 9; (with_reducible refine (HNW.out _).mono ?_); rintro e w2 ⟨rfl, hT⟩; have HT2 := Lib.hid (HT1.out.trans hT (by simp)); clear hT)
      go_ret
      exact ⟨rfl, HT2.out⟩
    | true =>
      have HNW := Lib.hid (fun W => New_any m ml q fr ql s sl HM.out HQ.out HS.out hr W)
      have HFL := Lib.hid (flat_new (m := m) (q := q) (s := s) hr)
      clear hr
      go_upto_region 8 with (go_at_call 9; (with_reducible refine (HNW.out _).mono ?_); rintro e w5 ⟨b, S, rfl, hD, hT, hF⟩; have HD5 := Lib.hid hD; have HT5 := Lib.hid hT; have HF5 := Lib.hid hF; clear hD hT hF)
      clear v0 v1 v2 v3 v4 v5 v6 o0 o1 o2 o3
      have HV5 := Lib.hid (HT5.out.keep HV1.out (by simp))
      have HO5 := Lib.hid (HT5.out.keep HO1.out (by simp))
      obtain ⟨o0, o1, o2, o3⟩ := op_cells HO5.out
      have hz5 := (Array.getElem?_eq_some_iff.1 HO5.out).1
      obtain ⟨D', x, y, z, hap⟩ : ∃ D' x y z, (Dr.new m ml q fr ql s sl).apply (Ops.opT.rightB 3 k a b2) 3 k a b2 = (D', (x, y), z) := ⟨_, _, _, _, rfl⟩
      have hAP := apply_flat HD5.out (HKN.out _ (HT1.out.trans HT5.out (by simp))) HFL.out (by omega) 3 k a b2 (by omega)
      rw [hap] at hAP
      have HAP : Hid (Calls Tryd.prog 14 #[.pointer (some ⟨b, 0, none⟩), .agg #[.int .i64 3, .int .i64 k, .int .i64 a, .int .i64 b2]] w5 fun e w' => e = .returned (.tuple #[.agg #[.int .i64 x, .int .i64 y], .int .u64 z]) ∧ ∃ S', Aft w5 b S D' 4 S' w') := Lib.hid hAP
      have HE := Lib.hid hap
      clear hAP hap
      go_upto_region 9 with (go_at_call 14; (with_reducible refine (HAP.out).mono ?_); rintro e w6 ⟨rfl, S6, hA⟩; have HA6 := Lib.hid hA; clear hA)
      have hT7 : Frm.Turn [] w1 (w6.alloc (.cells #[.int .i64 x, .int .i64 y] 52)) := (HT5.out.trans HA6.out.turn (fun k hk => .inr (HF5.out k hk))).alloc _
      have hD7 := HA6.out.at_.step ((Frm.Turn.refl [] w6).alloc (.cells #[.int .i64 x, .int .i64 y] 52))
      clear o0 o1 o2 o3 hz5
      generalize w6.alloc _ = W7 at hT7 hD7 ⊢
      have HT7 := Lib.hid hT7
      have HD7 := Lib.hid hD7
      have hvr := Version_any hD7
      obtain ⟨m', hm'⟩ : ∃ m', m' = D'.told (D'.at (none, 0)) := ⟨_, rfl⟩
      obtain ⟨ml', hml'⟩ : ∃ ml', ml' = D'.len 0 := ⟨_, rfl⟩
      obtain ⟨q', hq'⟩ : ∃ q', q' = D'.told (D'.at (none, 1)) := ⟨_, rfl⟩
      obtain ⟨fr', hfr'⟩ : ∃ fr', fr' = D'.front := ⟨_, rfl⟩
      obtain ⟨ql', hql'⟩ : ∃ ql', ql' = D'.len 1 := ⟨_, rfl⟩
      obtain ⟨s', hs'⟩ : ∃ s', s' = D'.told (D'.at (none, 2)) := ⟨_, rfl⟩
      obtain ⟨sl', hsl'⟩ : ∃ sl', sl' = D'.len 2 := ⟨_, rfl⟩
      unfold Dr.verV Drf.verV at hvr
      rw [← hm', ← hml', ← hq', ← hfr', ← hql', ← hs', ← hsl'] at hvr
      have HVR := Lib.hid hvr
      have H0 := Lib.hid hm'
      have H0l := Lib.hid hml'
      have H1 := Lib.hid hq'
      have H1l := Lib.hid hql'
      have H1f := Lib.hid hfr'
      have H2 := Lib.hid hs'
      have H2l := Lib.hid hsl'
      clear hT7 hD7 hvr hm' hml' hq' hfr' hql' hs' hsl'
      go_upto_region 10 with (go_at_call 24; (with_reducible refine (HVR.out).mono ?_); rintro e w8 ⟨rfl, hT⟩; have HT8 := Lib.hid hT; clear hT)
      have hT9 : Frm.Turn [] W7 (w8.alloc (.cells #[.int .u64 m', .int .i64 ml', .int .u64 q', .int .i64 fr', .int .i64 ql', .int .u64 s', .int .i64 sl'] 34)) := HT8.out.alloc _
      have h9 := heap_alloc_new w8 (.cells #[.int .u64 m', .int .i64 ml', .int .u64 q', .int .i64 fr', .int .i64 ql', .int .u64 s', .int .i64 sl'] 34)
      generalize w8.alloc _ = W9 at hT9 h9 ⊢
      generalize w8.heap.size = g9 at h9 ⊢
      have hT19 := HT7.out.trans hT9 (by simp)
      have HD9 := Lib.hid (HD7.out.step hT9)
      have HV9 := Lib.hid (hT19.keep HV1.out (by simp))
      have HO9 := Lib.hid (hT19.keep HO1.out (by simp))
      have H9 := Lib.hid h9
      have HT9 := Lib.hid (HT1.out.trans hT19 (by simp))
      obtain ⟨⟨v0, v1, v2, v3, v4, v5, v6⟩, -⟩ := ver_cells HV9.out
      obtain ⟨o0, o1, o2, o3⟩ := op_cells HO9.out
      obtain ⟨⟨u0, u1, u2, u3, u4, u5, u6⟩, -⟩ := ver_cells h9
      clear hT9 h9 hT19
      by_cases hz : z = 0
      · have tz : (z != 0) = false := by simpa using hz
        clear hz
        have hDD : D' = (Dr.new m ml q fr ql s sl) := by have := apply_ask HFL.out (r := Ops.opT.rightB 3 k a b2) (c := 3) (k := k) (a := a) (b := b2) (by omega); rw [HE.out] at this; exact this
        subst hDD
        obtain rfl : m = m' := (H0.out).symm
        obtain rfl : ml = ml' := (H0l.out).symm
        obtain rfl : q = q' := (H1.out).symm
        obtain rfl : fr = fr' := (H1f.out).symm
        obtain rfl : ql = ql' := (H1l.out).symm
        obtain rfl : s = s' := (H2.out).symm
        obtain rfl : sl = sl' := (H2l.out).symm
        have hnx := Next_any HD9.out (by omega)
        rw [new_next] at hnx
        have HNX := Lib.hid hnx
        have HDR := Lib.hid (fun W (hT : Frm.Turn [] W9 W) => show Calls Tryd.prog 23 #[.pointer (some ⟨b, 0, none⟩)] W (fun e w' => (∃ a c, e = .returned (.slice a 0 c)) ∧ Frm.Turn [] W w') from (Dropped_any (HD9.out.step hT) (by omega)).mono fun e w' ⟨v, he, ho, hT'⟩ => by
          obtain ⟨a, c, rfl⟩ := Frm.row_form ho
          exact ⟨⟨a, c, he⟩, hT'⟩)
        clear hnx
        go_upto_region 29 with (go_at_call 21; (with_reducible refine (HNX.out).mono ?_); rintro e w10 ⟨rfl, hT⟩; have HT10 := Lib.hid hT; clear hT)
        have hT11 : Frm.Turn [] W9 (w10.alloc (.cells #[.int .u64 0, .int .u64 0, .int .u64 0, .int .u64 0] 58)) := HT10.out.alloc _
        generalize w10.alloc _ = W11 at hT11 ⊢
        have HT11 := Lib.hid hT11
        clear v0 v1 v2 v3 v4 v5 v6 o0 o1 o2 o3 u0 u1 u2 u3 u4 u5 u6
        obtain ⟨⟨v0, v1, v2, v3, v4, v5, v6⟩, -⟩ := ver_cells (hT11.keep HV9.out (by simp))
        obtain ⟨⟨u0, u1, u2, u3, u4, u5, u6⟩, -⟩ := ver_cells (hT11.keep H9.out (by simp))
        clear hT11
        go_wp2_with (go_at_call 23; (with_reducible refine (HDR.out _ HT11.out).mono ?_); rintro e w12 ⟨⟨a12, c12, rfl⟩, hT⟩; have HT12 := Lib.hid (HT11.out.trans hT (by simp)); clear hT)
        go_ret
        exact ⟨rfl, HT9.out.trans HT12.out (by simp)⟩
      · have tz : (z != 0) = true := by simpa using hz
        have hDD : D' = (Dr.new m ml q fr ql s sl) := by have := apply_need (D := (Dr.new m ml q fr ql s sl)) (r := Ops.opT.rightB 3 k a b2) (c := 3) (k := k) (a := a) (b := b2) (by rw [HE.out]; exact hz); rw [HE.out] at this; exact this
        clear hz
        subst hDD
        obtain rfl : m = m' := (H0.out).symm
        obtain rfl : ml = ml' := (H0l.out).symm
        obtain rfl : q = q' := (H1.out).symm
        obtain rfl : fr = fr' := (H1f.out).symm
        obtain rfl : ql = ql' := (H1l.out).symm
        obtain rfl : s = s' := (H2.out).symm
        obtain rfl : sl = sl' := (H2l.out).symm
        have hnx := Next_any HD9.out (by omega)
        rw [new_next] at hnx
        have HNX := Lib.hid hnx
        have HDR := Lib.hid (fun W (hT : Frm.Turn [] W9 W) => show Calls Tryd.prog 23 #[.pointer (some ⟨b, 0, none⟩)] W (fun e w' => (∃ a c, e = .returned (.slice a 0 c)) ∧ Frm.Turn [] W w') from (Dropped_any (HD9.out.step hT) (by omega)).mono fun e w' ⟨v, he, ho, hT'⟩ => by
          obtain ⟨a, c, rfl⟩ := Frm.row_form ho
          exact ⟨⟨a, c, he⟩, hT'⟩)
        clear hnx
        go_upto_region 12 with (go_at_call 21; (with_reducible refine (HNX.out).mono ?_); rintro e w10 ⟨rfl, hT⟩; have HT10 := Lib.hid hT; clear hT)
        have hT11 : Frm.Turn [] W9 (w10.alloc (.cells #[.int .u64 0, .int .u64 0, .int .u64 0, .int .u64 0] 58)) := HT10.out.alloc _
        generalize w10.alloc _ = W11 at hT11 ⊢
        have HT11 := Lib.hid hT11
        clear v0 v1 v2 v3 v4 v5 v6 o0 o1 o2 o3 u0 u1 u2 u3 u4 u5 u6
        obtain ⟨⟨v0, v1, v2, v3, v4, v5, v6⟩, -⟩ := ver_cells (hT11.keep HV9.out (by simp))
        obtain ⟨⟨u0, u1, u2, u3, u4, u5, u6⟩, -⟩ := ver_cells (hT11.keep H9.out (by simp))
        clear hT11
        go_wp2_with (go_at_call 23; (with_reducible refine (HDR.out _ HT11.out).mono ?_); rintro e w12 ⟨⟨a12, c12, rfl⟩, hT⟩; have HT12 := Lib.hid (HT11.out.trans hT (by simp)); clear hT)
        go_ret
        exact ⟨rfl, HT9.out.trans HT12.out (by simp)⟩
set_option maxRecDepth 100000 in
set_option maxHeartbeats 8000000 in
theorem shares_4 {m ml q fr ql s sl k a b2 : Int} (hm : W64 m) (hq : W64 q) (hs : W64 s) (w : World) (hK : Ops.Kn w) :
    Calls Tryd.prog 5 #[.agg #[.int .u64 m, .int .i64 ml, .int .u64 q, .int .i64 fr, .int .i64 ql, .int .u64 s, .int .i64 sl], .agg #[.int .i64 4, .int .i64 k, .int .i64 a, .int .i64 b2]] w fun e w' => e = .returned (.bool true) ∧ Frm.Turn [] w w' := by
  have T0 : Frm.Turn [] w ((w.alloc (.cells #[.int .u64 m, .int .i64 ml, .int .u64 q, .int .i64 fr, .int .i64 ql, .int .u64 s, .int .i64 sl] 34)).alloc (.cells #[.int .i64 4, .int .i64 k, .int .i64 a, .int .i64 b2] 44)) := ((Frm.Turn.refl [] w).alloc _).alloc _
  have hv0 : ((w.alloc (.cells #[.int .u64 m, .int .i64 ml, .int .u64 q, .int .i64 fr, .int .i64 ql, .int .u64 s, .int .i64 sl] 34)).alloc (.cells #[.int .i64 4, .int .i64 k, .int .i64 a, .int .i64 b2] 44)).heap[w.heap.size]? = some (.cells #[.int .u64 m, .int .i64 ml, .int .u64 q, .int .i64 fr, .int .i64 ql, .int .u64 s, .int .i64 sl] 34 (0, 0)) := ((Frm.Turn.refl [] _).alloc _).keep (heap_alloc_new w _) (by simp)
  have ho0 : ((w.alloc (.cells #[.int .u64 m, .int .i64 ml, .int .u64 q, .int .i64 fr, .int .i64 ql, .int .u64 s, .int .i64 sl] 34)).alloc (.cells #[.int .i64 4, .int .i64 k, .int .i64 a, .int .i64 b2] 44)).heap[w.heap.size + 1]? = some (.cells #[.int .i64 4, .int .i64 k, .int .i64 a, .int .i64 b2] 44 (0, 0)) := by
    have := heap_alloc_new (w.alloc (.cells #[.int .u64 m, .int .i64 ml, .int .u64 q, .int .i64 fr, .int .i64 ql, .int .u64 s, .int .i64 sl] 34)) (.cells #[.int .i64 4, .int .i64 k, .int .i64 a, .int .i64 b2] 44)
    rw [World.size_alloc] at this
    exact this
  have HT0 := Lib.hid T0
  have HV0 := Lib.hid hv0
  have HO0 := Lib.hid ho0
  have HFI := Lib.hid (fun W (hT : Frm.Turn [] w W) => first_any W (hK.turn hT))
  have HKN := Lib.hid (fun W (hT : Frm.Turn [] w W) => hK.turn hT)
  have HM := Lib.hid hm
  have HQ := Lib.hid hq
  have HS := Lib.hid hs
  clear T0 hv0 ho0 hK hm hq hs
  go_enter Tryd.func5, Tryd.ntmps5
  go_upto_region 3 with (go_at_call 6; (with_reducible refine (HFI.out _ HT0.out).mono ?_); rintro e w1 ⟨rfl, hT⟩; have HT1 := Lib.hid (HT0.out.trans hT (by simp)); have HV1 := Lib.hid (hT.keep HV0.out (by simp)); have HO1 := Lib.hid (hT.keep HO0.out (by simp)); clear hT)
  obtain ⟨⟨v0, v1, v2, v3, v4, v5, v6⟩, -⟩ := ver_cells HV1.out
  obtain ⟨o0, o1, o2, o3⟩ := op_cells HO1.out
  go_cut [28] from 16 to 28 (fun x W => x = .bool false ∧ W = w1)
  case first =>
    by_cases q0 : q = 0
    · have t0 : (q == 0) = true := by simpa using q0
      by_cases l0 : 0 < ql
      · have t1 : decide (0 < ql) = true := by simpa using l0
        clear q0 l0
        go_wp2_with fail
        go_meet
        exact ⟨rfl, rfl⟩
      · have t1 : decide (0 < ql) = false := by simpa using l0
        clear q0 l0
        go_wp2_with fail
        go_meet
        exact ⟨rfl, rfl⟩
    · have t0 : (q == 0) = false := by simpa using q0
      clear q0
      go_wp2_with fail
      go_meet
      exact ⟨rfl, rfl⟩
  case rest =>
    obtain ⟨rfl, hwc⟩ := hcut
    rw [hwc]
    clear hwc
    cases hr : rightV ml fr ql sl with
    | false =>
      have HNW := Lib.hid (fun W => New_wrong m ml q fr ql s sl hr W)
      clear hr
      go_wp2_with (go_at_call 9; (with_reducible refine (HNW.out _).mono ?_); rintro e w2 ⟨rfl, hT⟩; have HT2 := Lib.hid (HT1.out.trans hT (by simp)); clear hT)
      go_ret
      exact ⟨rfl, HT2.out⟩
    | true =>
      have HNW := Lib.hid (fun W => New_any m ml q fr ql s sl HM.out HQ.out HS.out hr W)
      have HFL := Lib.hid (flat_new (m := m) (q := q) (s := s) hr)
      clear hr
      go_upto_region 8 with (go_at_call 9; (with_reducible refine (HNW.out _).mono ?_); rintro e w5 ⟨b, S, rfl, hD, hT, hF⟩; have HD5 := Lib.hid hD; have HT5 := Lib.hid hT; have HF5 := Lib.hid hF; clear hD hT hF)
      clear v0 v1 v2 v3 v4 v5 v6 o0 o1 o2 o3
      have HV5 := Lib.hid (HT5.out.keep HV1.out (by simp))
      have HO5 := Lib.hid (HT5.out.keep HO1.out (by simp))
      obtain ⟨o0, o1, o2, o3⟩ := op_cells HO5.out
      have hz5 := (Array.getElem?_eq_some_iff.1 HO5.out).1
      obtain ⟨D', x, y, z, hap⟩ : ∃ D' x y z, (Dr.new m ml q fr ql s sl).apply (Ops.opT.rightB 4 k a b2) 4 k a b2 = (D', (x, y), z) := ⟨_, _, _, _, rfl⟩
      have hAP := apply_flat HD5.out (HKN.out _ (HT1.out.trans HT5.out (by simp))) HFL.out (by omega) 4 k a b2 (by omega)
      rw [hap] at hAP
      have HAP : Hid (Calls Tryd.prog 14 #[.pointer (some ⟨b, 0, none⟩), .agg #[.int .i64 4, .int .i64 k, .int .i64 a, .int .i64 b2]] w5 fun e w' => e = .returned (.tuple #[.agg #[.int .i64 x, .int .i64 y], .int .u64 z]) ∧ ∃ S', Aft w5 b S D' 4 S' w') := Lib.hid hAP
      have HE := Lib.hid hap
      clear hAP hap
      go_upto_region 9 with (go_at_call 14; (with_reducible refine (HAP.out).mono ?_); rintro e w6 ⟨rfl, S6, hA⟩; have HA6 := Lib.hid hA; clear hA)
      have hT7 : Frm.Turn [] w1 (w6.alloc (.cells #[.int .i64 x, .int .i64 y] 52)) := (HT5.out.trans HA6.out.turn (fun k hk => .inr (HF5.out k hk))).alloc _
      have hD7 := HA6.out.at_.step ((Frm.Turn.refl [] w6).alloc (.cells #[.int .i64 x, .int .i64 y] 52))
      clear o0 o1 o2 o3 hz5
      generalize w6.alloc _ = W7 at hT7 hD7 ⊢
      have HT7 := Lib.hid hT7
      have HD7 := Lib.hid hD7
      have hvr := Version_any hD7
      obtain ⟨m', hm'⟩ : ∃ m', m' = D'.told (D'.at (none, 0)) := ⟨_, rfl⟩
      obtain ⟨ml', hml'⟩ : ∃ ml', ml' = D'.len 0 := ⟨_, rfl⟩
      obtain ⟨q', hq'⟩ : ∃ q', q' = D'.told (D'.at (none, 1)) := ⟨_, rfl⟩
      obtain ⟨fr', hfr'⟩ : ∃ fr', fr' = D'.front := ⟨_, rfl⟩
      obtain ⟨ql', hql'⟩ : ∃ ql', ql' = D'.len 1 := ⟨_, rfl⟩
      obtain ⟨s', hs'⟩ : ∃ s', s' = D'.told (D'.at (none, 2)) := ⟨_, rfl⟩
      obtain ⟨sl', hsl'⟩ : ∃ sl', sl' = D'.len 2 := ⟨_, rfl⟩
      unfold Dr.verV Drf.verV at hvr
      rw [← hm', ← hml', ← hq', ← hfr', ← hql', ← hs', ← hsl'] at hvr
      have HVR := Lib.hid hvr
      have H0 := Lib.hid hm'
      have H0l := Lib.hid hml'
      have H1 := Lib.hid hq'
      have H1l := Lib.hid hql'
      have H1f := Lib.hid hfr'
      have H2 := Lib.hid hs'
      have H2l := Lib.hid hsl'
      clear hT7 hD7 hvr hm' hml' hq' hfr' hql' hs' hsl'
      go_upto_region 10 with (go_at_call 24; (with_reducible refine (HVR.out).mono ?_); rintro e w8 ⟨rfl, hT⟩; have HT8 := Lib.hid hT; clear hT)
      have hT9 : Frm.Turn [] W7 (w8.alloc (.cells #[.int .u64 m', .int .i64 ml', .int .u64 q', .int .i64 fr', .int .i64 ql', .int .u64 s', .int .i64 sl'] 34)) := HT8.out.alloc _
      have h9 := heap_alloc_new w8 (.cells #[.int .u64 m', .int .i64 ml', .int .u64 q', .int .i64 fr', .int .i64 ql', .int .u64 s', .int .i64 sl'] 34)
      generalize w8.alloc _ = W9 at hT9 h9 ⊢
      generalize w8.heap.size = g9 at h9 ⊢
      have hT19 := HT7.out.trans hT9 (by simp)
      have HD9 := Lib.hid (HD7.out.step hT9)
      have HV9 := Lib.hid (hT19.keep HV1.out (by simp))
      have HO9 := Lib.hid (hT19.keep HO1.out (by simp))
      have H9 := Lib.hid h9
      have HT9 := Lib.hid (HT1.out.trans hT19 (by simp))
      obtain ⟨⟨v0, v1, v2, v3, v4, v5, v6⟩, -⟩ := ver_cells HV9.out
      obtain ⟨o0, o1, o2, o3⟩ := op_cells HO9.out
      obtain ⟨⟨u0, u1, u2, u3, u4, u5, u6⟩, -⟩ := ver_cells h9
      clear hT9 h9 hT19
      by_cases hz : z = 0
      · have tz : (z != 0) = false := by simpa using hz
        clear hz
        have hDD : D' = (Dr.new m ml q fr ql s sl) := by have := apply_ask HFL.out (r := Ops.opT.rightB 4 k a b2) (c := 4) (k := k) (a := a) (b := b2) (by omega); rw [HE.out] at this; exact this
        subst hDD
        obtain rfl : m = m' := (H0.out).symm
        obtain rfl : ml = ml' := (H0l.out).symm
        obtain rfl : q = q' := (H1.out).symm
        obtain rfl : fr = fr' := (H1f.out).symm
        obtain rfl : ql = ql' := (H1l.out).symm
        obtain rfl : s = s' := (H2.out).symm
        obtain rfl : sl = sl' := (H2l.out).symm
        have hnx := Next_any HD9.out (by omega)
        rw [new_next] at hnx
        have HNX := Lib.hid hnx
        have HDR := Lib.hid (fun W (hT : Frm.Turn [] W9 W) => show Calls Tryd.prog 23 #[.pointer (some ⟨b, 0, none⟩)] W (fun e w' => (∃ a c, e = .returned (.slice a 0 c)) ∧ Frm.Turn [] W w') from (Dropped_any (HD9.out.step hT) (by omega)).mono fun e w' ⟨v, he, ho, hT'⟩ => by
          obtain ⟨a, c, rfl⟩ := Frm.row_form ho
          exact ⟨⟨a, c, he⟩, hT'⟩)
        clear hnx
        go_upto_region 29 with (go_at_call 21; (with_reducible refine (HNX.out).mono ?_); rintro e w10 ⟨rfl, hT⟩; have HT10 := Lib.hid hT; clear hT)
        have hT11 : Frm.Turn [] W9 (w10.alloc (.cells #[.int .u64 0, .int .u64 0, .int .u64 0, .int .u64 0] 58)) := HT10.out.alloc _
        generalize w10.alloc _ = W11 at hT11 ⊢
        have HT11 := Lib.hid hT11
        clear v0 v1 v2 v3 v4 v5 v6 o0 o1 o2 o3 u0 u1 u2 u3 u4 u5 u6
        obtain ⟨⟨v0, v1, v2, v3, v4, v5, v6⟩, -⟩ := ver_cells (hT11.keep HV9.out (by simp))
        obtain ⟨⟨u0, u1, u2, u3, u4, u5, u6⟩, -⟩ := ver_cells (hT11.keep H9.out (by simp))
        clear hT11
        go_wp2_with (go_at_call 23; (with_reducible refine (HDR.out _ HT11.out).mono ?_); rintro e w12 ⟨⟨a12, c12, rfl⟩, hT⟩; have HT12 := Lib.hid (HT11.out.trans hT (by simp)); clear hT)
        go_ret
        exact ⟨rfl, HT9.out.trans HT12.out (by simp)⟩
      · have tz : (z != 0) = true := by simpa using hz
        have hDD : D' = (Dr.new m ml q fr ql s sl) := by have := apply_need (D := (Dr.new m ml q fr ql s sl)) (r := Ops.opT.rightB 4 k a b2) (c := 4) (k := k) (a := a) (b := b2) (by rw [HE.out]; exact hz); rw [HE.out] at this; exact this
        clear hz
        subst hDD
        obtain rfl : m = m' := (H0.out).symm
        obtain rfl : ml = ml' := (H0l.out).symm
        obtain rfl : q = q' := (H1.out).symm
        obtain rfl : fr = fr' := (H1f.out).symm
        obtain rfl : ql = ql' := (H1l.out).symm
        obtain rfl : s = s' := (H2.out).symm
        obtain rfl : sl = sl' := (H2l.out).symm
        have hnx := Next_any HD9.out (by omega)
        rw [new_next] at hnx
        have HNX := Lib.hid hnx
        have HDR := Lib.hid (fun W (hT : Frm.Turn [] W9 W) => show Calls Tryd.prog 23 #[.pointer (some ⟨b, 0, none⟩)] W (fun e w' => (∃ a c, e = .returned (.slice a 0 c)) ∧ Frm.Turn [] W w') from (Dropped_any (HD9.out.step hT) (by omega)).mono fun e w' ⟨v, he, ho, hT'⟩ => by
          obtain ⟨a, c, rfl⟩ := Frm.row_form ho
          exact ⟨⟨a, c, he⟩, hT'⟩)
        clear hnx
        go_upto_region 12 with (go_at_call 21; (with_reducible refine (HNX.out).mono ?_); rintro e w10 ⟨rfl, hT⟩; have HT10 := Lib.hid hT; clear hT)
        have hT11 : Frm.Turn [] W9 (w10.alloc (.cells #[.int .u64 0, .int .u64 0, .int .u64 0, .int .u64 0] 58)) := HT10.out.alloc _
        generalize w10.alloc _ = W11 at hT11 ⊢
        have HT11 := Lib.hid hT11
        clear v0 v1 v2 v3 v4 v5 v6 o0 o1 o2 o3 u0 u1 u2 u3 u4 u5 u6
        obtain ⟨⟨v0, v1, v2, v3, v4, v5, v6⟩, -⟩ := ver_cells (hT11.keep HV9.out (by simp))
        obtain ⟨⟨u0, u1, u2, u3, u4, u5, u6⟩, -⟩ := ver_cells (hT11.keep H9.out (by simp))
        clear hT11
        go_wp2_with (go_at_call 23; (with_reducible refine (HDR.out _ HT11.out).mono ?_); rintro e w12 ⟨⟨a12, c12, rfl⟩, hT⟩; have HT12 := Lib.hid (HT11.out.trans hT (by simp)); clear hT)
        go_ret
        exact ⟨rfl, HT9.out.trans HT12.out (by simp)⟩
end Drf
end Go.Proofs.YtjginajnegahdaaDoor
