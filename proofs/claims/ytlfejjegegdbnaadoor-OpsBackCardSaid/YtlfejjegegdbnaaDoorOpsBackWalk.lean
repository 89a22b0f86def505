/- The walk of law OpsBack: it returns true for all operations and responses. -/
import Derived.Test.YtlfejjegegdbnaaDoorOpsBackPlain
import Derived.Deep.RegionHeld3
set_option linter.unusedVariables false
set_option linter.unusedSimpArgs false
namespace Go.Proofs.YtlfejjegegdbnaaDoor
namespace Ops
open Go.RowKit Go.Lib

set_option maxRecDepth 100000 in
set_option maxHeartbeats 16000000 in
theorem opsBack_form (c k x y d l z u p v N M Q : Int) (BA BB BR : Bool) (TA TB TR : List UInt8) (w : World) (hk : Kn w) (Q1 : Hid (∀ W, Kn W → Calls Tryd.prog 8 #[.agg #[.int .i64 c, .int .i64 k, .int .i64 x, .int .i64 y]] W fun e w' => e = .returned (.tuple #[.int .u64 N, .bool BA]) ∧ Frm.Turn [] W w')) (Q1b : Hid (∀ W, Kn W → Calls Tryd.prog 8 #[.agg #[.int .i64 d, .int .i64 l, .int .i64 z, .int .i64 u]] W fun e w' => e = .returned (.tuple #[.int .u64 M, .bool BB]) ∧ Frm.Turn [] W w')) (Q2 : BA = true → Hid (∀ W, Kn W → Calls Tryd.prog 16 #[.int .u64 N] W fun e w' => e = .returned (.tuple #[.agg #[.int .i64 c, .int .i64 k, .int .i64 x, .int .i64 y], .bool true]) ∧ Frm.Turn [] W w')) (Q3 : Hid (∀ W, Kn W → Calls Tryd.prog 24 #[.agg #[.int .i64 c, .int .i64 k, .int .i64 x, .int .i64 y]] W fun e w' => e = .returned (.string ⟨TA.toArray⟩) ∧ Frm.Turn [] W w')) (Q3b : Hid (∀ W, Kn W → Calls Tryd.prog 24 #[.agg #[.int .i64 d, .int .i64 l, .int .i64 z, .int .i64 u]] W fun e w' => e = .returned (.string ⟨TB.toArray⟩) ∧ Frm.Turn [] W w')) (Q4 : BA = true → Hid (∀ W, Kn W → Calls Tryd.prog 20 #[.string ⟨TA.toArray⟩] W fun e w' => e = .returned (.tuple #[.agg #[.int .i64 c, .int .i64 k, .int .i64 x, .int .i64 y], .bool true]) ∧ Frm.Turn [] W w')) (QR : Hid (∀ W, Kn W → Calls Tryd.prog 9 #[.agg #[.int .i64 p, .int .i64 v]] W fun e w' => e = .returned (.tuple #[.int .u64 Q, .bool BR]) ∧ Frm.Turn [] W w')) (Q5 : Hid (∀ W, Kn W → Calls Tryd.prog 26 #[.agg #[.int .i64 p, .int .i64 v]] W fun e w' => e = .returned (.string ⟨TR.toArray⟩) ∧ Frm.Turn [] W w')) (Q6 : BR = true → Hid (∀ W, Kn W → Calls Tryd.prog 22 #[.string ⟨TR.toArray⟩] W fun e w' => e = .returned (.tuple #[.agg #[.int .i64 p, .int .i64 v], .bool true]) ∧ Frm.Turn [] W w')) (Q7 : BR = true → Hid (∀ W, Kn W → Calls Tryd.prog 18 #[.int .u64 Q] W fun e w' => e = .returned (.tuple #[.agg #[.int .i64 p, .int .i64 v], .bool true]) ∧ Frm.Turn [] W w')) (Q8 : BR = false → TR = []) (HE : BA = true → BB = true → (N = M ↔ (c = d ∧ k = l ∧ x = z ∧ y = u)) ∧ (TA = TB ↔ (c = d ∧ k = l ∧ x = z ∧ y = u))) :
    Calls Tryd.prog 6 #[.agg #[.int .i64 c, .int .i64 k, .int .i64 x, .int .i64 y], .agg #[.int .i64 d, .int .i64 l, .int .i64 z, .int .i64 u], .agg #[.int .i64 p, .int .i64 v]] w fun e w' => e = .returned (.bool true) ∧ Frm.Turn [] w w' := by
  have hTA : Frm.Turn [] w (((w.alloc (.cells #[.int .i64 c, .int .i64 k, .int .i64 x, .int .i64 y] 23)).alloc (.cells #[.int .i64 d, .int .i64 l, .int .i64 z, .int .i64 u] 23)).alloc (.cells #[.int .i64 p, .int .i64 v] 25)) := (((Frm.Turn.refl [] w).alloc _).alloc _).alloc _
  have TA0 := Lib.hid hTA
  have hBa : (((w.alloc (.cells #[.int .i64 c, .int .i64 k, .int .i64 x, .int .i64 y] 23)).alloc (.cells #[.int .i64 d, .int .i64 l, .int .i64 z, .int .i64 u] 23)).alloc (.cells #[.int .i64 p, .int .i64 v] 25)).heap[w.heap.size]? = some (.cells #[.int .i64 c, .int .i64 k, .int .i64 x, .int .i64 y] 23 (0, 0)) := by rw [Below.heap_alloc _ _ _ (by simp; omega)]; exact heap_below w _ _
  have hBb : (((w.alloc (.cells #[.int .i64 c, .int .i64 k, .int .i64 x, .int .i64 y] 23)).alloc (.cells #[.int .i64 d, .int .i64 l, .int .i64 z, .int .i64 u] 23)).alloc (.cells #[.int .i64 p, .int .i64 v] 25)).heap[w.heap.size + 1]? = some (.cells #[.int .i64 d, .int .i64 l, .int .i64 z, .int .i64 u] 23 (0, 0)) := by rw [Below.heap_alloc _ _ _ (by simp)]; exact heap_last w _ _
  have hBc : (((w.alloc (.cells #[.int .i64 c, .int .i64 k, .int .i64 x, .int .i64 y] 23)).alloc (.cells #[.int .i64 d, .int .i64 l, .int .i64 z, .int .i64 u] 23)).alloc (.cells #[.int .i64 p, .int .i64 v] 25)).heap[w.heap.size + 1 + 1]? = some (.cells #[.int .i64 p, .int .i64 v] 25 (0, 0)) := by have := heap_last (w.alloc (.cells #[.int .i64 c, .int .i64 k, .int .i64 x, .int .i64 y] 23)) (.cells #[.int .i64 d, .int .i64 l, .int .i64 z, .int .i64 u] 23) (.cells #[.int .i64 p, .int .i64 v] 25); simpa using this
  have HS : Hid (∀ W', Frm.Turn [] (((w.alloc (.cells #[.int .i64 c, .int .i64 k, .int .i64 x, .int .i64 y] 23)).alloc (.cells #[.int .i64 d, .int .i64 l, .int .i64 z, .int .i64 u] 23)).alloc (.cells #[.int .i64 p, .int .i64 v] 25)) W' → (W').cell? ⟨w.heap.size, 0, none⟩ = some (.int .i64 c) ∧ (W').cell? ⟨w.heap.size, 1, none⟩ = some (.int .i64 k) ∧ (W').cell? ⟨w.heap.size, 2, none⟩ = some (.int .i64 x) ∧ (W').cell? ⟨w.heap.size, 3, none⟩ = some (.int .i64 y) ∧ (W').cell? ⟨w.heap.size + 1, 0, none⟩ = some (.int .i64 d) ∧ (W').cell? ⟨w.heap.size + 1, 1, none⟩ = some (.int .i64 l) ∧ (W').cell? ⟨w.heap.size + 1, 2, none⟩ = some (.int .i64 z) ∧ (W').cell? ⟨w.heap.size + 1, 3, none⟩ = some (.int .i64 u) ∧ (W').cell? ⟨w.heap.size + 1 + 1, 0, none⟩ = some (.int .i64 p) ∧ (W').cell? ⟨w.heap.size + 1 + 1, 1, none⟩ = some (.int .i64 v)) := by
    refine Lib.hid (fun W' hT => ?_)
    obtain ⟨⟨h0, h1, h2, h3⟩, _⟩ := blk4 (hT.keep hBa (by simp))
    obtain ⟨⟨g0, g1, g2, g3⟩, _⟩ := blk4 (hT.keep hBb (by simp))
    obtain ⟨⟨f0, f1⟩, _⟩ := blk2 (hT.keep hBc (by simp))
    exact ⟨h0, h1, h2, h3, g0, g1, g2, g3, f0, f1⟩
  have P0 := Lib.hid (first_any (((w.alloc (.cells #[.int .i64 c, .int .i64 k, .int .i64 x, .int .i64 y] 23)).alloc (.cells #[.int .i64 d, .int .i64 l, .int .i64 z, .int .i64 u] 23)).alloc (.cells #[.int .i64 p, .int .i64 v] 25)) (hk.turn hTA))
  have K := Lib.hid (fun W' (hT : Frm.Turn [] (((w.alloc (.cells #[.int .i64 c, .int .i64 k, .int .i64 x, .int .i64 y] 23)).alloc (.cells #[.int .i64 d, .int .i64 l, .int .i64 z, .int .i64 u] 23)).alloc (.cells #[.int .i64 p, .int .i64 v] 25)) W') => hk.turn (hTA.trans hT (by simp)))
  have close : ∀ W', Frm.Turn [] (((w.alloc (.cells #[.int .i64 c, .int .i64 k, .int .i64 x, .int .i64 y] 23)).alloc (.cells #[.int .i64 d, .int .i64 l, .int .i64 z, .int .i64 u] 23)).alloc (.cells #[.int .i64 p, .int .i64 v] 25)) W' → Frm.Turn [] w W' := fun W' h => TA0.out.trans h (by simp)
  have CL := Lib.hid close
  clear hBa hBb hBc hTA hk close TA0
  go_enter Tryd.func6, Tryd.ntmps6
  go_upto_region 1 with fail
  generalize (((w.alloc (.cells #[.int .i64 c, .int .i64 k, .int .i64 x, .int .i64 y] 23)).alloc (.cells #[.int .i64 d, .int .i64 l, .int .i64 z, .int .i64 u] 23)).alloc (.cells #[.int .i64 p, .int .i64 v] 25)) = WA at P0 K HS CL ⊢
  go_upto_region 5 with (first
    | (go_at_call 7; (with_reducible refine (P0.out).mono ?_); rintro e w1 ⟨rfl, hT⟩; have T1 := Lib.hid hT; clear hT; obtain ⟨i0, i1, i2, i3, i4, i5, i6, i7, i8, i9⟩ := HS.out _ T1.out)
    | (go_at_call 8; (with_reducible refine (Q1b.out _ (K.out _ T2.out)).mono ?_); rintro e w3 ⟨rfl, hT⟩; have T3 := Lib.hid (T2.out.trans hT (by simp)); clear hT; obtain ⟨h0, h1, h2, h3, h4, h5, h6, h7, h8, h9⟩ := HS.out _ T3.out)
    | (go_at_call 8; (with_reducible refine (Q1.out _ (K.out _ T1.out)).mono ?_); rintro e w2 ⟨rfl, hT⟩; have T2 := Lib.hid (T1.out.trans hT (by simp)); clear hT; obtain ⟨g0, g1, g2, g3, g4, g5, g6, g7, g8, g9⟩ := HS.out _ T2.out))
  cases BA
  · clear Q2 Q4 HE i0 i1 i2 i3 i4 i5 i6 i7 i8 i9 g0 g1 g2 g3 g4 g5 g6 g7 g8 g9 h0 h1 h2 h3 h4 h5 h6 h7 h8 h9
    go_upto_region 10 with fail
    go_quiet (fail)
    have R0 := Lib.hid (T3.out.drewN nq)
    obtain ⟨h0, h1, h2, h3, h4, h5, h6, h7, h8, h9⟩ := HS.out _ R0.out
    cases BR
    · have h8 := Q8 (by simp)
      subst h8
      go_wp2_with (first
        | (go_at_call 9; (with_reducible refine (QR.out _ (K.out _ R0.out)).mono ?_); rintro e v1 ⟨rfl, hT⟩; have V1 := Lib.hid (R0.out.trans hT (by simp)); clear hT; obtain ⟨k0, k1, k2, k3, k4, k5, k6, k7, k8, k9⟩ := HS.out _ V1.out)
        | (go_at_call 26; (with_reducible refine (Q5.out _ (K.out _ V1.out)).mono ?_); rintro e v2 ⟨rfl, hT⟩; have V2 := Lib.hid (V1.out.trans hT (by simp)); clear hT))
      go_ret
      exact ⟨rfl, CL.out _ V2.out⟩
    · have HQ6 := Q6 (by simp)
      have HQ7 := Q7 (by simp)
      clear Q6 Q7 Q8
      go_wp2_with (first
        | (go_at_call 9; (with_reducible refine (QR.out _ (K.out _ R0.out)).mono ?_); rintro e v1 ⟨rfl, hT⟩; have V1 := Lib.hid (R0.out.trans hT (by simp)); clear hT)
        | (go_at_call 18; (with_reducible refine (HQ7.out _ (K.out _ V1.out)).mono ?_); rintro e v2 ⟨rfl, hT⟩; have V2 := Lib.hid (V1.out.trans hT (by simp)); clear hT; have V2a := Lib.hid (V2.out.alloc (.cells #[.int .i64 p, .int .i64 v] 25)); have HX2 := Lib.hid (World.alloc_heap_new v2 (.cells #[.int .i64 p, .int .i64 v] 25)); obtain ⟨m0, m1, m2, m3, m4, m5, m6, m7, m8, m9⟩ := HS.out _ V2a.out)
        | (go_at_call 26; (with_reducible refine (Q5.out _ (K.out _ V2a.out)).mono ?_); rintro e v3 ⟨rfl, hT⟩; have V3 := Lib.hid (V2a.out.trans hT (by simp)); have HX3 := Lib.hid (hT.keep HX2.out (by simp)); clear hT)
        | (go_at_call 22; (with_reducible refine (HQ6.out _ (K.out _ V3.out)).mono ?_); rintro e v4 ⟨rfl, hT⟩; have V4 := Lib.hid (V3.out.trans hT (by simp)); have V4a := Lib.hid (V4.out.alloc (.cells #[.int .i64 p, .int .i64 v] 25)); have HX4 := Lib.hid (((Frm.Turn.refl [] v4).alloc (.cells #[.int .i64 p, .int .i64 v] 25)).keep (hT.keep HX3.out (by simp)) (by simp)); have HY4 := Lib.hid (World.alloc_heap_new v4 (.cells #[.int .i64 p, .int .i64 v] 25)); obtain ⟨⟨n0, n1⟩, _⟩ := blk2 HX4.out; obtain ⟨⟨o0, o1⟩, _⟩ := blk2 HY4.out; obtain ⟨q0, q1, q2, q3, q4, q5, q6, q7, q8, q9⟩ := HS.out _ V4a.out; clear hT))
      go_ret
      exact ⟨by simp, CL.out _ V4a.out⟩
  · have HQ2 := Q2 (by simp)
    have HQ4 := Q4 (by simp)
    clear Q2 Q4 i0 i1 i2 i3 i4 i5 i6 i7 i8 i9 g0 g1 g2 g3 g4 g5 g6 g7 g8 g9
    go_upto_region 10 with (first
      | (go_at_call 16; (with_reducible refine (HQ2.out _ (K.out _ T3.out)).mono ?_); rintro e w4 ⟨rfl, hT⟩; have T4 := Lib.hid (T3.out.trans hT (by simp)); have T4a := Lib.hid (T4.out.alloc (.cells #[.int .i64 c, .int .i64 k, .int .i64 x, .int .i64 y] 23)); have HX4 := Lib.hid (World.alloc_heap_new w4 (.cells #[.int .i64 c, .int .i64 k, .int .i64 x, .int .i64 y] 23)); obtain ⟨g0, g1, g2, g3, g4, g5, g6, g7, g8, g9⟩ := HS.out _ T4a.out; clear hT)
      | (go_at_call 24; (with_reducible refine (Q3.out _ (K.out _ T4a.out)).mono ?_); rintro e w5 ⟨rfl, hT⟩; have T5 := Lib.hid (T4a.out.trans hT (by simp)); have HX5 := Lib.hid (hT.keep HX4.out (by simp)); clear hT)
      | (go_at_call 20; (with_reducible refine (HQ4.out _ (K.out _ T5.out)).mono ?_); rintro e w6 ⟨rfl, hT⟩; have T6 := Lib.hid (T5.out.trans hT (by simp)); have T6a := Lib.hid (T6.out.alloc (.cells #[.int .i64 c, .int .i64 k, .int .i64 x, .int .i64 y] 23)); have HX6 := Lib.hid (((Frm.Turn.refl [] w6).alloc (.cells #[.int .i64 c, .int .i64 k, .int .i64 x, .int .i64 y] 23)).keep (hT.keep HX5.out (by simp)) (by simp)); have HY6 := Lib.hid (World.alloc_heap_new w6 (.cells #[.int .i64 c, .int .i64 k, .int .i64 x, .int .i64 y] 23)); obtain ⟨⟨a0, a1, a2, a3⟩, _⟩ := blk4 HX6.out; obtain ⟨⟨e0, e1, e2, e3⟩, _⟩ := blk4 HY6.out; obtain ⟨h0, h1, h2, h3, h4, h5, h6, h7, h8, h9⟩ := HS.out _ T6a.out; clear hT))
    clear a0 a1 a2 a3 e0 e1 e2 e3 g0 g1 g2 g3 g4 g5 g6 g7 g8 g9
    cases BB
    · go_quiet (fail)
      have R0 := Lib.hid (T6a.out.drewN nq)
      obtain ⟨j0, j1, j2, j3, j4, j5, j6, j7, j8, j9⟩ := HS.out _ R0.out
      cases BR
      · have h8 := Q8 (by simp)
        subst h8
        go_wp2_with (first
          | (go_at_call 9; (with_reducible refine (QR.out _ (K.out _ R0.out)).mono ?_); rintro e v1 ⟨rfl, hT⟩; have V1 := Lib.hid (R0.out.trans hT (by simp)); clear hT; obtain ⟨k0, k1, k2, k3, k4, k5, k6, k7, k8, k9⟩ := HS.out _ V1.out)
          | (go_at_call 26; (with_reducible refine (Q5.out _ (K.out _ V1.out)).mono ?_); rintro e v2 ⟨rfl, hT⟩; have V2 := Lib.hid (V1.out.trans hT (by simp)); clear hT))
        go_ret
        exact ⟨rfl, CL.out _ V2.out⟩
      · have HQ6 := Q6 (by simp)
        have HQ7 := Q7 (by simp)
        clear Q6 Q7 Q8
        go_wp2_with (first
          | (go_at_call 9; (with_reducible refine (QR.out _ (K.out _ R0.out)).mono ?_); rintro e v1 ⟨rfl, hT⟩; have V1 := Lib.hid (R0.out.trans hT (by simp)); clear hT)
          | (go_at_call 18; (with_reducible refine (HQ7.out _ (K.out _ V1.out)).mono ?_); rintro e v2 ⟨rfl, hT⟩; have V2 := Lib.hid (V1.out.trans hT (by simp)); clear hT; have V2a := Lib.hid (V2.out.alloc (.cells #[.int .i64 p, .int .i64 v] 25)); have HX2 := Lib.hid (World.alloc_heap_new v2 (.cells #[.int .i64 p, .int .i64 v] 25)); obtain ⟨m0, m1, m2, m3, m4, m5, m6, m7, m8, m9⟩ := HS.out _ V2a.out)
          | (go_at_call 26; (with_reducible refine (Q5.out _ (K.out _ V2a.out)).mono ?_); rintro e v3 ⟨rfl, hT⟩; have V3 := Lib.hid (V2a.out.trans hT (by simp)); have HX3 := Lib.hid (hT.keep HX2.out (by simp)); clear hT)
          | (go_at_call 22; (with_reducible refine (HQ6.out _ (K.out _ V3.out)).mono ?_); rintro e v4 ⟨rfl, hT⟩; have V4 := Lib.hid (V3.out.trans hT (by simp)); have V4a := Lib.hid (V4.out.alloc (.cells #[.int .i64 p, .int .i64 v] 25)); have HX4 := Lib.hid (((Frm.Turn.refl [] v4).alloc (.cells #[.int .i64 p, .int .i64 v] 25)).keep (hT.keep HX3.out (by simp)) (by simp)); have HY4 := Lib.hid (World.alloc_heap_new v4 (.cells #[.int .i64 p, .int .i64 v] 25)); obtain ⟨⟨n0, n1⟩, _⟩ := blk2 HX4.out; obtain ⟨⟨o0, o1⟩, _⟩ := blk2 HY4.out; obtain ⟨q0, q1, q2, q3, q4, q5, q6, q7, q8, q9⟩ := HS.out _ V4a.out; clear hT))
        go_ret
        exact ⟨by simp, CL.out _ V4a.out⟩
    · have R0 := Lib.hid (T6a.out.drew)
      by_cases hE : c = d ∧ k = l ∧ x = z ∧ y = u
      · have hN := (HE (by simp) (by simp)).1.2 hE
        have hT := (HE (by simp) (by simp)).2.2 hE
        obtain ⟨rfl, rfl, rfl, rfl⟩ := hE
        subst hN hT
        clear HE
        go_region_held3 (fun w' => (w').cell? ⟨w.heap.size, 0, none⟩ = some (.int .i64 c) ∧ (w').cell? ⟨w.heap.size, 1, none⟩ = some (.int .i64 k) ∧ (w').cell? ⟨w.heap.size, 2, none⟩ = some (.int .i64 x) ∧ (w').cell? ⟨w.heap.size, 3, none⟩ = some (.int .i64 y) ∧ (w').cell? ⟨w.heap.size + 1, 0, none⟩ = some (.int .i64 c) ∧ (w').cell? ⟨w.heap.size + 1, 1, none⟩ = some (.int .i64 k) ∧ (w').cell? ⟨w.heap.size + 1, 2, none⟩ = some (.int .i64 x) ∧ (w').cell? ⟨w.heap.size + 1, 3, none⟩ = some (.int .i64 y) ∧ (w').cell? ⟨w.heap.size + 1 + 1, 0, none⟩ = some (.int .i64 p) ∧ (w').cell? ⟨w.heap.size + 1 + 1, 1, none⟩ = some (.int .i64 v))
          (first | exact HS.out _ R0.out | exact HS.out _ R1.out | exact HS.out _ R2.out | go_keep)
          (first
            | (go_at_call 24; (with_reducible refine (Q3.out _ (K.out _ R1.out)).mono ?_); rintro e r2 ⟨rfl, hT⟩; have R2 := Lib.hid (R1.out.trans hT (by simp)); clear hT)
            | (go_at_call 24; (with_reducible refine (Q3.out _ (K.out _ R0.out)).mono ?_); rintro e r1 ⟨rfl, hT⟩; have R1 := Lib.hid (R0.out.trans hT (by simp)); clear hT))
        obtain ⟨j0, j1, j2, j3, j4, j5, j6, j7, j8, j9⟩ := HS.out _ R2.out
        cases BR
        · have h8 := Q8 (by simp)
          subst h8
          go_wp2_with (first
            | (go_at_call 9; (with_reducible refine (QR.out _ (K.out _ R2.out)).mono ?_); rintro e v1 ⟨rfl, hT⟩; have V1 := Lib.hid (R2.out.trans hT (by simp)); clear hT; obtain ⟨k0, k1, k2, k3, k4, k5, k6, k7, k8, k9⟩ := HS.out _ V1.out)
            | (go_at_call 26; (with_reducible refine (Q5.out _ (K.out _ V1.out)).mono ?_); rintro e v2 ⟨rfl, hT⟩; have V2 := Lib.hid (V1.out.trans hT (by simp)); clear hT))
          go_ret
          exact ⟨rfl, CL.out _ V2.out⟩
        · have HQ6 := Q6 (by simp)
          have HQ7 := Q7 (by simp)
          clear Q6 Q7 Q8
          go_wp2_with (first
            | (go_at_call 9; (with_reducible refine (QR.out _ (K.out _ R2.out)).mono ?_); rintro e v1 ⟨rfl, hT⟩; have V1 := Lib.hid (R2.out.trans hT (by simp)); clear hT)
            | (go_at_call 18; (with_reducible refine (HQ7.out _ (K.out _ V1.out)).mono ?_); rintro e v2 ⟨rfl, hT⟩; have V2 := Lib.hid (V1.out.trans hT (by simp)); clear hT; have V2a := Lib.hid (V2.out.alloc (.cells #[.int .i64 p, .int .i64 v] 25)); have HX2 := Lib.hid (World.alloc_heap_new v2 (.cells #[.int .i64 p, .int .i64 v] 25)); obtain ⟨m0, m1, m2, m3, m4, m5, m6, m7, m8, m9⟩ := HS.out _ V2a.out)
            | (go_at_call 26; (with_reducible refine (Q5.out _ (K.out _ V2a.out)).mono ?_); rintro e v3 ⟨rfl, hT⟩; have V3 := Lib.hid (V2a.out.trans hT (by simp)); have HX3 := Lib.hid (hT.keep HX2.out (by simp)); clear hT)
            | (go_at_call 22; (with_reducible refine (HQ6.out _ (K.out _ V3.out)).mono ?_); rintro e v4 ⟨rfl, hT⟩; have V4 := Lib.hid (V3.out.trans hT (by simp)); have V4a := Lib.hid (V4.out.alloc (.cells #[.int .i64 p, .int .i64 v] 25)); have HX4 := Lib.hid (((Frm.Turn.refl [] v4).alloc (.cells #[.int .i64 p, .int .i64 v] 25)).keep (hT.keep HX3.out (by simp)) (by simp)); have HY4 := Lib.hid (World.alloc_heap_new v4 (.cells #[.int .i64 p, .int .i64 v] 25)); obtain ⟨⟨n0, n1⟩, _⟩ := blk2 HX4.out; obtain ⟨⟨o0, o1⟩, _⟩ := blk2 HY4.out; obtain ⟨q0, q1, q2, q3, q4, q5, q6, q7, q8, q9⟩ := HS.out _ V4a.out; clear hT))
          go_ret
          exact ⟨by simp, CL.out _ V4a.out⟩
      · have hN : N ≠ M := fun h => hE ((HE (by simp) (by simp)).1.1 h)
        have hT : TA ≠ TB := fun h => hE ((HE (by simp) (by simp)).2.1 h)
        have hN1 : (N == M) = false := by simpa using hN
        have hT1 : (TA == TB) = false := by simpa using hT
        have hE' : c ≠ d ∨ (c = d ∧ k ≠ l) ∨ (c = d ∧ k = l ∧ x ≠ z) ∨ (c = d ∧ k = l ∧ x = z ∧ y ≠ u) := by omega
        clear HE hE hN hT
        rcases hE' with h1 | ⟨rfl, h1⟩ | ⟨rfl, rfl, h1⟩ | ⟨rfl, rfl, rfl, h1⟩
        · have hd1 : (c == d) = false := by simpa using h1
          have hd2 : decide (c = d) = false := by simpa using h1
          go_region_held3 (fun w' => (w').cell? ⟨w.heap.size, 0, none⟩ = some (.int .i64 c) ∧ (w').cell? ⟨w.heap.size, 1, none⟩ = some (.int .i64 k) ∧ (w').cell? ⟨w.heap.size, 2, none⟩ = some (.int .i64 x) ∧ (w').cell? ⟨w.heap.size, 3, none⟩ = some (.int .i64 y) ∧ (w').cell? ⟨w.heap.size + 1, 0, none⟩ = some (.int .i64 d) ∧ (w').cell? ⟨w.heap.size + 1, 1, none⟩ = some (.int .i64 l) ∧ (w').cell? ⟨w.heap.size + 1, 2, none⟩ = some (.int .i64 z) ∧ (w').cell? ⟨w.heap.size + 1, 3, none⟩ = some (.int .i64 u) ∧ (w').cell? ⟨w.heap.size + 1 + 1, 0, none⟩ = some (.int .i64 p) ∧ (w').cell? ⟨w.heap.size + 1 + 1, 1, none⟩ = some (.int .i64 v))
            (first | exact HS.out _ R0.out | exact HS.out _ R1.out | exact HS.out _ R2.out | go_keep)
            (first
              | (go_at_call 24; (with_reducible refine (Q3b.out _ (K.out _ R1.out)).mono ?_); rintro e r2 ⟨rfl, hT⟩; have R2 := Lib.hid (R1.out.trans hT (by simp)); clear hT)
              | (go_at_call 24; (with_reducible refine (Q3.out _ (K.out _ R0.out)).mono ?_); rintro e r1 ⟨rfl, hT⟩; have R1 := Lib.hid (R0.out.trans hT (by simp)); clear hT))
          obtain ⟨j0, j1, j2, j3, j4, j5, j6, j7, j8, j9⟩ := HS.out _ R2.out
          cases BR
          · have h8 := Q8 (by simp)
            subst h8
            go_wp2_with (first
              | (go_at_call 9; (with_reducible refine (QR.out _ (K.out _ R2.out)).mono ?_); rintro e v1 ⟨rfl, hT⟩; have V1 := Lib.hid (R2.out.trans hT (by simp)); clear hT; obtain ⟨k0, k1, k2, k3, k4, k5, k6, k7, k8, k9⟩ := HS.out _ V1.out)
              | (go_at_call 26; (with_reducible refine (Q5.out _ (K.out _ V1.out)).mono ?_); rintro e v2 ⟨rfl, hT⟩; have V2 := Lib.hid (V1.out.trans hT (by simp)); clear hT))
            go_ret
            exact ⟨rfl, CL.out _ V2.out⟩
          · have HQ6 := Q6 (by simp)
            have HQ7 := Q7 (by simp)
            clear Q6 Q7 Q8
            go_wp2_with (first
              | (go_at_call 9; (with_reducible refine (QR.out _ (K.out _ R2.out)).mono ?_); rintro e v1 ⟨rfl, hT⟩; have V1 := Lib.hid (R2.out.trans hT (by simp)); clear hT)
              | (go_at_call 18; (with_reducible refine (HQ7.out _ (K.out _ V1.out)).mono ?_); rintro e v2 ⟨rfl, hT⟩; have V2 := Lib.hid (V1.out.trans hT (by simp)); clear hT; have V2a := Lib.hid (V2.out.alloc (.cells #[.int .i64 p, .int .i64 v] 25)); have HX2 := Lib.hid (World.alloc_heap_new v2 (.cells #[.int .i64 p, .int .i64 v] 25)); obtain ⟨m0, m1, m2, m3, m4, m5, m6, m7, m8, m9⟩ := HS.out _ V2a.out)
              | (go_at_call 26; (with_reducible refine (Q5.out _ (K.out _ V2a.out)).mono ?_); rintro e v3 ⟨rfl, hT⟩; have V3 := Lib.hid (V2a.out.trans hT (by simp)); have HX3 := Lib.hid (hT.keep HX2.out (by simp)); clear hT)
              | (go_at_call 22; (with_reducible refine (HQ6.out _ (K.out _ V3.out)).mono ?_); rintro e v4 ⟨rfl, hT⟩; have V4 := Lib.hid (V3.out.trans hT (by simp)); have V4a := Lib.hid (V4.out.alloc (.cells #[.int .i64 p, .int .i64 v] 25)); have HX4 := Lib.hid (((Frm.Turn.refl [] v4).alloc (.cells #[.int .i64 p, .int .i64 v] 25)).keep (hT.keep HX3.out (by simp)) (by simp)); have HY4 := Lib.hid (World.alloc_heap_new v4 (.cells #[.int .i64 p, .int .i64 v] 25)); obtain ⟨⟨n0, n1⟩, _⟩ := blk2 HX4.out; obtain ⟨⟨o0, o1⟩, _⟩ := blk2 HY4.out; obtain ⟨q0, q1, q2, q3, q4, q5, q6, q7, q8, q9⟩ := HS.out _ V4a.out; clear hT))
            go_ret
            exact ⟨by simp, CL.out _ V4a.out⟩
        · have hd1 : (k == l) = false := by simpa using h1
          have hd2 : decide (k = l) = false := by simpa using h1
          go_region_held3 (fun w' => (w').cell? ⟨w.heap.size, 0, none⟩ = some (.int .i64 c) ∧ (w').cell? ⟨w.heap.size, 1, none⟩ = some (.int .i64 k) ∧ (w').cell? ⟨w.heap.size, 2, none⟩ = some (.int .i64 x) ∧ (w').cell? ⟨w.heap.size, 3, none⟩ = some (.int .i64 y) ∧ (w').cell? ⟨w.heap.size + 1, 0, none⟩ = some (.int .i64 c) ∧ (w').cell? ⟨w.heap.size + 1, 1, none⟩ = some (.int .i64 l) ∧ (w').cell? ⟨w.heap.size + 1, 2, none⟩ = some (.int .i64 z) ∧ (w').cell? ⟨w.heap.size + 1, 3, none⟩ = some (.int .i64 u) ∧ (w').cell? ⟨w.heap.size + 1 + 1, 0, none⟩ = some (.int .i64 p) ∧ (w').cell? ⟨w.heap.size + 1 + 1, 1, none⟩ = some (.int .i64 v))
            (first | exact HS.out _ R0.out | exact HS.out _ R1.out | exact HS.out _ R2.out | go_keep)
            (first
              | (go_at_call 24; (with_reducible refine (Q3b.out _ (K.out _ R1.out)).mono ?_); rintro e r2 ⟨rfl, hT⟩; have R2 := Lib.hid (R1.out.trans hT (by simp)); clear hT)
              | (go_at_call 24; (with_reducible refine (Q3.out _ (K.out _ R0.out)).mono ?_); rintro e r1 ⟨rfl, hT⟩; have R1 := Lib.hid (R0.out.trans hT (by simp)); clear hT))
          obtain ⟨j0, j1, j2, j3, j4, j5, j6, j7, j8, j9⟩ := HS.out _ R2.out
          cases BR
          · have h8 := Q8 (by simp)
            subst h8
            go_wp2_with (first
              | (go_at_call 9; (with_reducible refine (QR.out _ (K.out _ R2.out)).mono ?_); rintro e v1 ⟨rfl, hT⟩; have V1 := Lib.hid (R2.out.trans hT (by simp)); clear hT; obtain ⟨k0, k1, k2, k3, k4, k5, k6, k7, k8, k9⟩ := HS.out _ V1.out)
              | (go_at_call 26; (with_reducible refine (Q5.out _ (K.out _ V1.out)).mono ?_); rintro e v2 ⟨rfl, hT⟩; have V2 := Lib.hid (V1.out.trans hT (by simp)); clear hT))
            go_ret
            exact ⟨rfl, CL.out _ V2.out⟩
          · have HQ6 := Q6 (by simp)
            have HQ7 := Q7 (by simp)
            clear Q6 Q7 Q8
            go_wp2_with (first
              | (go_at_call 9; (with_reducible refine (QR.out _ (K.out _ R2.out)).mono ?_); rintro e v1 ⟨rfl, hT⟩; have V1 := Lib.hid (R2.out.trans hT (by simp)); clear hT)
              | (go_at_call 18; (with_reducible refine (HQ7.out _ (K.out _ V1.out)).mono ?_); rintro e v2 ⟨rfl, hT⟩; have V2 := Lib.hid (V1.out.trans hT (by simp)); clear hT; have V2a := Lib.hid (V2.out.alloc (.cells #[.int .i64 p, .int .i64 v] 25)); have HX2 := Lib.hid (World.alloc_heap_new v2 (.cells #[.int .i64 p, .int .i64 v] 25)); obtain ⟨m0, m1, m2, m3, m4, m5, m6, m7, m8, m9⟩ := HS.out _ V2a.out)
              | (go_at_call 26; (with_reducible refine (Q5.out _ (K.out _ V2a.out)).mono ?_); rintro e v3 ⟨rfl, hT⟩; have V3 := Lib.hid (V2a.out.trans hT (by simp)); have HX3 := Lib.hid (hT.keep HX2.out (by simp)); clear hT)
              | (go_at_call 22; (with_reducible refine (HQ6.out _ (K.out _ V3.out)).mono ?_); rintro e v4 ⟨rfl, hT⟩; have V4 := Lib.hid (V3.out.trans hT (by simp)); have V4a := Lib.hid (V4.out.alloc (.cells #[.int .i64 p, .int .i64 v] 25)); have HX4 := Lib.hid (((Frm.Turn.refl [] v4).alloc (.cells #[.int .i64 p, .int .i64 v] 25)).keep (hT.keep HX3.out (by simp)) (by simp)); have HY4 := Lib.hid (World.alloc_heap_new v4 (.cells #[.int .i64 p, .int .i64 v] 25)); obtain ⟨⟨n0, n1⟩, _⟩ := blk2 HX4.out; obtain ⟨⟨o0, o1⟩, _⟩ := blk2 HY4.out; obtain ⟨q0, q1, q2, q3, q4, q5, q6, q7, q8, q9⟩ := HS.out _ V4a.out; clear hT))
            go_ret
            exact ⟨by simp, CL.out _ V4a.out⟩
        · have hd1 : (x == z) = false := by simpa using h1
          have hd2 : decide (x = z) = false := by simpa using h1
          go_region_held3 (fun w' => (w').cell? ⟨w.heap.size, 0, none⟩ = some (.int .i64 c) ∧ (w').cell? ⟨w.heap.size, 1, none⟩ = some (.int .i64 k) ∧ (w').cell? ⟨w.heap.size, 2, none⟩ = some (.int .i64 x) ∧ (w').cell? ⟨w.heap.size, 3, none⟩ = some (.int .i64 y) ∧ (w').cell? ⟨w.heap.size + 1, 0, none⟩ = some (.int .i64 c) ∧ (w').cell? ⟨w.heap.size + 1, 1, none⟩ = some (.int .i64 k) ∧ (w').cell? ⟨w.heap.size + 1, 2, none⟩ = some (.int .i64 z) ∧ (w').cell? ⟨w.heap.size + 1, 3, none⟩ = some (.int .i64 u) ∧ (w').cell? ⟨w.heap.size + 1 + 1, 0, none⟩ = some (.int .i64 p) ∧ (w').cell? ⟨w.heap.size + 1 + 1, 1, none⟩ = some (.int .i64 v))
            (first | exact HS.out _ R0.out | exact HS.out _ R1.out | exact HS.out _ R2.out | go_keep)
            (first
              | (go_at_call 24; (with_reducible refine (Q3b.out _ (K.out _ R1.out)).mono ?_); rintro e r2 ⟨rfl, hT⟩; have R2 := Lib.hid (R1.out.trans hT (by simp)); clear hT)
              | (go_at_call 24; (with_reducible refine (Q3.out _ (K.out _ R0.out)).mono ?_); rintro e r1 ⟨rfl, hT⟩; have R1 := Lib.hid (R0.out.trans hT (by simp)); clear hT))
          obtain ⟨j0, j1, j2, j3, j4, j5, j6, j7, j8, j9⟩ := HS.out _ R2.out
          cases BR
          · have h8 := Q8 (by simp)
            subst h8
            go_wp2_with (first
              | (go_at_call 9; (with_reducible refine (QR.out _ (K.out _ R2.out)).mono ?_); rintro e v1 ⟨rfl, hT⟩; have V1 := Lib.hid (R2.out.trans hT (by simp)); clear hT; obtain ⟨k0, k1, k2, k3, k4, k5, k6, k7, k8, k9⟩ := HS.out _ V1.out)
              | (go_at_call 26; (with_reducible refine (Q5.out _ (K.out _ V1.out)).mono ?_); rintro e v2 ⟨rfl, hT⟩; have V2 := Lib.hid (V1.out.trans hT (by simp)); clear hT))
            go_ret
            exact ⟨rfl, CL.out _ V2.out⟩
          · have HQ6 := Q6 (by simp)
            have HQ7 := Q7 (by simp)
            clear Q6 Q7 Q8
            go_wp2_with (first
              | (go_at_call 9; (with_reducible refine (QR.out _ (K.out _ R2.out)).mono ?_); rintro e v1 ⟨rfl, hT⟩; have V1 := Lib.hid (R2.out.trans hT (by simp)); clear hT)
              | (go_at_call 18; (with_reducible refine (HQ7.out _ (K.out _ V1.out)).mono ?_); rintro e v2 ⟨rfl, hT⟩; have V2 := Lib.hid (V1.out.trans hT (by simp)); clear hT; have V2a := Lib.hid (V2.out.alloc (.cells #[.int .i64 p, .int .i64 v] 25)); have HX2 := Lib.hid (World.alloc_heap_new v2 (.cells #[.int .i64 p, .int .i64 v] 25)); obtain ⟨m0, m1, m2, m3, m4, m5, m6, m7, m8, m9⟩ := HS.out _ V2a.out)
              | (go_at_call 26; (with_reducible refine (Q5.out _ (K.out _ V2a.out)).mono ?_); rintro e v3 ⟨rfl, hT⟩; have V3 := Lib.hid (V2a.out.trans hT (by simp)); have HX3 := Lib.hid (hT.keep HX2.out (by simp)); clear hT)
              | (go_at_call 22; (with_reducible refine (HQ6.out _ (K.out _ V3.out)).mono ?_); rintro e v4 ⟨rfl, hT⟩; have V4 := Lib.hid (V3.out.trans hT (by simp)); have V4a := Lib.hid (V4.out.alloc (.cells #[.int .i64 p, .int .i64 v] 25)); have HX4 := Lib.hid (((Frm.Turn.refl [] v4).alloc (.cells #[.int .i64 p, .int .i64 v] 25)).keep (hT.keep HX3.out (by simp)) (by simp)); have HY4 := Lib.hid (World.alloc_heap_new v4 (.cells #[.int .i64 p, .int .i64 v] 25)); obtain ⟨⟨n0, n1⟩, _⟩ := blk2 HX4.out; obtain ⟨⟨o0, o1⟩, _⟩ := blk2 HY4.out; obtain ⟨q0, q1, q2, q3, q4, q5, q6, q7, q8, q9⟩ := HS.out _ V4a.out; clear hT))
            go_ret
            exact ⟨by simp, CL.out _ V4a.out⟩
        · have hd1 : (y == u) = false := by simpa using h1
          have hd2 : decide (y = u) = false := by simpa using h1
          go_region_held3 (fun w' => (w').cell? ⟨w.heap.size, 0, none⟩ = some (.int .i64 c) ∧ (w').cell? ⟨w.heap.size, 1, none⟩ = some (.int .i64 k) ∧ (w').cell? ⟨w.heap.size, 2, none⟩ = some (.int .i64 x) ∧ (w').cell? ⟨w.heap.size, 3, none⟩ = some (.int .i64 y) ∧ (w').cell? ⟨w.heap.size + 1, 0, none⟩ = some (.int .i64 c) ∧ (w').cell? ⟨w.heap.size + 1, 1, none⟩ = some (.int .i64 k) ∧ (w').cell? ⟨w.heap.size + 1, 2, none⟩ = some (.int .i64 x) ∧ (w').cell? ⟨w.heap.size + 1, 3, none⟩ = some (.int .i64 u) ∧ (w').cell? ⟨w.heap.size + 1 + 1, 0, none⟩ = some (.int .i64 p) ∧ (w').cell? ⟨w.heap.size + 1 + 1, 1, none⟩ = some (.int .i64 v))
            (first | exact HS.out _ R0.out | exact HS.out _ R1.out | exact HS.out _ R2.out | go_keep)
            (first
              | (go_at_call 24; (with_reducible refine (Q3b.out _ (K.out _ R1.out)).mono ?_); rintro e r2 ⟨rfl, hT⟩; have R2 := Lib.hid (R1.out.trans hT (by simp)); clear hT)
              | (go_at_call 24; (with_reducible refine (Q3.out _ (K.out _ R0.out)).mono ?_); rintro e r1 ⟨rfl, hT⟩; have R1 := Lib.hid (R0.out.trans hT (by simp)); clear hT))
          obtain ⟨j0, j1, j2, j3, j4, j5, j6, j7, j8, j9⟩ := HS.out _ R2.out
          cases BR
          · have h8 := Q8 (by simp)
            subst h8
            go_wp2_with (first
              | (go_at_call 9; (with_reducible refine (QR.out _ (K.out _ R2.out)).mono ?_); rintro e v1 ⟨rfl, hT⟩; have V1 := Lib.hid (R2.out.trans hT (by simp)); clear hT; obtain ⟨k0, k1, k2, k3, k4, k5, k6, k7, k8, k9⟩ := HS.out _ V1.out)
              | (go_at_call 26; (with_reducible refine (Q5.out _ (K.out _ V1.out)).mono ?_); rintro e v2 ⟨rfl, hT⟩; have V2 := Lib.hid (V1.out.trans hT (by simp)); clear hT))
            go_ret
            exact ⟨rfl, CL.out _ V2.out⟩
          · have HQ6 := Q6 (by simp)
            have HQ7 := Q7 (by simp)
            clear Q6 Q7 Q8
            go_wp2_with (first
              | (go_at_call 9; (with_reducible refine (QR.out _ (K.out _ R2.out)).mono ?_); rintro e v1 ⟨rfl, hT⟩; have V1 := Lib.hid (R2.out.trans hT (by simp)); clear hT)
              | (go_at_call 18; (with_reducible refine (HQ7.out _ (K.out _ V1.out)).mono ?_); rintro e v2 ⟨rfl, hT⟩; have V2 := Lib.hid (V1.out.trans hT (by simp)); clear hT; have V2a := Lib.hid (V2.out.alloc (.cells #[.int .i64 p, .int .i64 v] 25)); have HX2 := Lib.hid (World.alloc_heap_new v2 (.cells #[.int .i64 p, .int .i64 v] 25)); obtain ⟨m0, m1, m2, m3, m4, m5, m6, m7, m8, m9⟩ := HS.out _ V2a.out)
              | (go_at_call 26; (with_reducible refine (Q5.out _ (K.out _ V2a.out)).mono ?_); rintro e v3 ⟨rfl, hT⟩; have V3 := Lib.hid (V2a.out.trans hT (by simp)); have HX3 := Lib.hid (hT.keep HX2.out (by simp)); clear hT)
              | (go_at_call 22; (with_reducible refine (HQ6.out _ (K.out _ V3.out)).mono ?_); rintro e v4 ⟨rfl, hT⟩; have V4 := Lib.hid (V3.out.trans hT (by simp)); have V4a := Lib.hid (V4.out.alloc (.cells #[.int .i64 p, .int .i64 v] 25)); have HX4 := Lib.hid (((Frm.Turn.refl [] v4).alloc (.cells #[.int .i64 p, .int .i64 v] 25)).keep (hT.keep HX3.out (by simp)) (by simp)); have HY4 := Lib.hid (World.alloc_heap_new v4 (.cells #[.int .i64 p, .int .i64 v] 25)); obtain ⟨⟨n0, n1⟩, _⟩ := blk2 HX4.out; obtain ⟨⟨o0, o1⟩, _⟩ := blk2 HY4.out; obtain ⟨q0, q1, q2, q3, q4, q5, q6, q7, q8, q9⟩ := HS.out _ V4a.out; clear hT))
            go_ret
            exact ⟨by simp, CL.out _ V4a.out⟩
end Ops
end Go.Proofs.YtlfejjegegdbnaaDoor
