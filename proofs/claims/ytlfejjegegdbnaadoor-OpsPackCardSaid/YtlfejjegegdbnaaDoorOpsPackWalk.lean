/- The walk of law OpsPack: it returns true for all operations and responses. -/
import Derived.Test.YtlfejjegegdbnaaDoorOpsRefs2
import Derived.Test.YtlfejjegegdbnaaDoorOpsLawFirst
import Derived.Deep.RegionHeld3
set_option linter.unusedVariables false
set_option linter.unusedSimpArgs false
namespace Go.Proofs.YtlfejjegegdbnaaDoor
namespace Ops
open Go.RowKit Go.Lib

set_option maxRecDepth 100000 in
set_option maxHeartbeats 8000000 in
theorem opsPack_form (c k a b p v N M : Int) (B D : Bool) (w : World) (hk : Kn w) (hN : B = false → N = 0) (hM : D = false → M = 0) (n0 : 0 ≤ N) (m0 : 0 ≤ M) (Q1 : Hid (∀ W, Kn W → Calls Tryd.prog 8 #[.agg #[.int .i64 c, .int .i64 k, .int .i64 a, .int .i64 b]] W fun e w' => e = .returned (.tuple #[.int .u64 N, .bool B]) ∧ Frm.Turn [] W w')) (Q2 : Hid (∀ W, Kn W → Calls Tryd.prog 9 #[.agg #[.int .i64 p, .int .i64 v]] W fun e w' => e = .returned (.tuple #[.int .u64 M, .bool D]) ∧ Frm.Turn [] W w')) (Q3 : Hid (∀ W, Kn W → Calls Tryd.prog 10 #[.agg #[.int .i64 c, .int .i64 k, .int .i64 a, .int .i64 b]] W fun e w' => e = .returned (.bool B) ∧ Frm.Turn [] W w')) (Q4 : Hid (∀ W, Calls Tryd.prog 11 #[.agg #[.int .i64 c, .int .i64 k, .int .i64 a, .int .i64 b]] W fun e w' => e = .returned (.bool B) ∧ Frm.Turn [] W w')) (Q5 : Hid (∀ W, Kn W → Calls Tryd.prog 12 #[.agg #[.int .i64 p, .int .i64 v]] W fun e w' => e = .returned (.bool D) ∧ Frm.Turn [] W w')) (Q6 : Hid (∀ W, Calls Tryd.prog 13 #[.agg #[.int .i64 p, .int .i64 v]] W fun e w' => e = .returned (.bool D) ∧ Frm.Turn [] W w')) (Q7 : B = true → Hid (∀ W, Calls Tryd.prog 14 #[.agg #[.int .i64 c, .int .i64 k, .int .i64 a, .int .i64 b]] W fun e w' => e = .returned (.int .u64 N) ∧ Frm.Turn [] W w')) (Q8 : D = true → Hid (∀ W, Calls Tryd.prog 15 #[.agg #[.int .i64 p, .int .i64 v]] W fun e w' => e = .returned (.int .u64 M) ∧ Frm.Turn [] W w')) :
    Calls Tryd.prog 3 #[.agg #[.int .i64 c, .int .i64 k, .int .i64 a, .int .i64 b], .agg #[.int .i64 p, .int .i64 v]] w fun e w' => e = .returned (.bool true) ∧ Frm.Turn [] w w' := by
  have hTA : Frm.Turn [] w ((w.alloc (.cells #[.int .i64 c, .int .i64 k, .int .i64 a, .int .i64 b] 23)).alloc (.cells #[.int .i64 p, .int .i64 v] 25)) := ((Frm.Turn.refl [] w).alloc _).alloc _
  have TA := Lib.hid hTA
  have hBa := heap_below w (.cells #[.int .i64 c, .int .i64 k, .int .i64 a, .int .i64 b] 23) (.cells #[.int .i64 p, .int .i64 v] 25)
  have hBb := heap_last w (.cells #[.int .i64 c, .int .i64 k, .int .i64 a, .int .i64 b] 23) (.cells #[.int .i64 p, .int .i64 v] 25)
  have HS : Hid (∀ W', Frm.Turn [] ((w.alloc (.cells #[.int .i64 c, .int .i64 k, .int .i64 a, .int .i64 b] 23)).alloc (.cells #[.int .i64 p, .int .i64 v] 25)) W' → (W').cell? ⟨w.heap.size, 0, none⟩ = some (.int .i64 c) ∧ (W').cell? ⟨w.heap.size, 1, none⟩ = some (.int .i64 k) ∧ (W').cell? ⟨w.heap.size, 2, none⟩ = some (.int .i64 a) ∧ (W').cell? ⟨w.heap.size, 3, none⟩ = some (.int .i64 b) ∧ (W').cell? ⟨w.heap.size + 1, 0, none⟩ = some (.int .i64 p) ∧ (W').cell? ⟨w.heap.size + 1, 1, none⟩ = some (.int .i64 v)) := by
    refine Lib.hid (fun W' hT => ?_)
    obtain ⟨⟨h0, h1, h2, h3⟩, _⟩ := blk4 (hT.keep hBa (by simp))
    obtain ⟨⟨g0, g1⟩, _⟩ := blk2 (hT.keep hBb (by simp))
    exact ⟨h0, h1, h2, h3, g0, g1⟩
  have P0 := Lib.hid (first_any ((w.alloc (.cells #[.int .i64 c, .int .i64 k, .int .i64 a, .int .i64 b] 23)).alloc (.cells #[.int .i64 p, .int .i64 v] 25)) (hk.turn hTA))
  have K := Lib.hid (fun W' (hT : Frm.Turn [] ((w.alloc (.cells #[.int .i64 c, .int .i64 k, .int .i64 a, .int .i64 b] 23)).alloc (.cells #[.int .i64 p, .int .i64 v] 25)) W') => hk.turn (hTA.trans hT (by simp)))
  clear hBa hBb hTA hk
  have close : ∀ W', Frm.Turn [] ((w.alloc (.cells #[.int .i64 c, .int .i64 k, .int .i64 a, .int .i64 b] 23)).alloc (.cells #[.int .i64 p, .int .i64 v] 25)) W' → Frm.Turn [] w W' := fun W' h => TA.out.trans h (by simp)
  have CL := Lib.hid close
  clear close TA
  go_enter Tryd.func3, Tryd.ntmps3
  go_upto_region 1 with fail
  generalize ((w.alloc (.cells #[.int .i64 c, .int .i64 k, .int .i64 a, .int .i64 b] 23)).alloc (.cells #[.int .i64 p, .int .i64 v] 25)) = WA at P0 K HS CL ⊢
  go_upto_region 5 with (first
    | (go_at_call 7; (with_reducible refine (P0.out).mono ?_); rintro e w1 ⟨rfl, hT⟩; have T1 := Lib.hid hT; clear hT; obtain ⟨x0, x1, x2, x3, x4, x5⟩ := HS.out _ T1.out)
    | (go_at_call 8; (with_reducible refine (Q1.out _ (K.out _ T1.out)).mono ?_); rintro e w2 ⟨rfl, hT⟩; have T2 := Lib.hid (T1.out.trans hT (by simp)); clear hT; obtain ⟨y0, y1, y2, y3, y4, y5⟩ := HS.out _ T2.out)
    | (go_at_call 9; (with_reducible refine (Q2.out _ (K.out _ T2.out)).mono ?_); rintro e w3 ⟨rfl, hT⟩; have T3 := Lib.hid (T2.out.trans hT (by simp)); clear hT))
  clear x0 x1 x2 x3 x4 x5 y0 y1 y2 y3 y4 y5
  have T3d := Lib.hid (T3.out.drew)
  have hz0 : WA = WA := rfl
  clear hz0
  cases B <;> cases D
  all_goals
    go_region_held3 (fun w' => (w').cell? ⟨w.heap.size, 0, none⟩ = some (.int .i64 c) ∧ (w').cell? ⟨w.heap.size, 1, none⟩ = some (.int .i64 k) ∧ (w').cell? ⟨w.heap.size, 2, none⟩ = some (.int .i64 a) ∧ (w').cell? ⟨w.heap.size, 3, none⟩ = some (.int .i64 b) ∧ (w').cell? ⟨w.heap.size + 1, 0, none⟩ = some (.int .i64 p) ∧ (w').cell? ⟨w.heap.size + 1, 1, none⟩ = some (.int .i64 v))
      (first | exact HS.out _ T3d.out | exact HS.out _ R1.out | exact HS.out _ R2.out | exact HS.out _ R3.out | exact HS.out _ R4.out | exact HS.out _ R5.out | exact HS.out _ R6.out | go_keep)
      (first
        | (go_at_call 13; (with_reducible refine (Q6.out _).mono ?_); rintro e r6 ⟨rfl, hT⟩; have R6 := Lib.hid (R5.out.trans hT (by simp)); clear hT)
        | (go_at_call 11; (with_reducible refine (Q4.out _).mono ?_); rintro e r5 ⟨rfl, hT⟩; have R5 := Lib.hid (R4.out.trans hT (by simp)); clear hT)
        | (go_at_call 13; (with_reducible refine (Q6.out _).mono ?_); rintro e r4 ⟨rfl, hT⟩; have R4 := Lib.hid (R3.out.trans hT (by simp)); clear hT)
        | (go_at_call 12; (with_reducible refine (Q5.out _ (K.out _ R2.out)).mono ?_); rintro e r3 ⟨rfl, hT⟩; have R3 := Lib.hid (R2.out.trans hT (by simp)); clear hT)
        | (go_at_call 11; (with_reducible refine (Q4.out _).mono ?_); rintro e r2 ⟨rfl, hT⟩; have R2 := Lib.hid (R1.out.trans hT (by simp)); clear hT)
        | (go_at_call 10; (with_reducible refine (Q3.out _ (K.out _ T3d.out)).mono ?_); rintro e r1 ⟨rfl, hT⟩; have R1 := Lib.hid (T3d.out.trans hT (by simp)); clear hT))
    obtain ⟨y0, y1, y2, y3, y4, y5⟩ := HS.out _ R6.out
  · go_wp2
    go_ret
    exact ⟨rfl, CL.out _ R6.out⟩
  · by_cases hm : M = 0
    · subst hm
      go_wp2_with (go_at_call 15; (with_reducible refine ((Q8 (by simp)).out _).mono ?_); rintro e r8 ⟨rfl, hT⟩; have R8 := Lib.hid (R6.out.trans hT (by simp)); clear hT)
      go_ret
      exact ⟨by simp, CL.out _ R8.out⟩
    · have hm1 : (M == 0) = false := by simpa using hm
      go_wp2_with (go_at_call 15; (with_reducible refine ((Q8 (by simp)).out _).mono ?_); rintro e r8 ⟨rfl, hT⟩; have R8 := Lib.hid (R6.out.trans hT (by simp)); clear hT)
      go_ret
      exact ⟨by simp, CL.out _ R8.out⟩
  · by_cases hm : N = 0
    · subst hm
      go_wp2_with (go_at_call 14; (with_reducible refine ((Q7 (by simp)).out _).mono ?_); rintro e r7 ⟨rfl, hT⟩; have R7 := Lib.hid (R6.out.trans hT (by simp)); clear hT; obtain ⟨z0, z1, z2, z3, z4, z5⟩ := HS.out _ R7.out)
      go_ret
      exact ⟨by simp, CL.out _ R7.out⟩
    · have hm1 : (N == 0) = false := by simpa using hm
      go_wp2_with (go_at_call 14; (with_reducible refine ((Q7 (by simp)).out _).mono ?_); rintro e r7 ⟨rfl, hT⟩; have R7 := Lib.hid (R6.out.trans hT (by simp)); clear hT; obtain ⟨z0, z1, z2, z3, z4, z5⟩ := HS.out _ R7.out)
      go_ret
      exact ⟨by simp, CL.out _ R7.out⟩
  · by_cases hm : N = 0
    · subst hm
      by_cases hm : M = 0
      · subst hm
        go_wp2_with (first
          | (go_at_call 14; (with_reducible refine ((Q7 (by simp)).out _).mono ?_); rintro e r7 ⟨rfl, hT⟩; have R7 := Lib.hid (R6.out.trans hT (by simp)); clear hT; obtain ⟨z0, z1, z2, z3, z4, z5⟩ := HS.out _ R7.out)
          | (go_at_call 15; (with_reducible refine ((Q8 (by simp)).out _).mono ?_); rintro e r8 ⟨rfl, hT⟩; have R8 := Lib.hid (R7.out.trans hT (by simp)); clear hT))
        go_ret
        exact ⟨by simp, CL.out _ R8.out⟩
      · have hm1 : (M == 0) = false := by simpa using hm
        go_wp2_with (first
          | (go_at_call 14; (with_reducible refine ((Q7 (by simp)).out _).mono ?_); rintro e r7 ⟨rfl, hT⟩; have R7 := Lib.hid (R6.out.trans hT (by simp)); clear hT; obtain ⟨z0, z1, z2, z3, z4, z5⟩ := HS.out _ R7.out)
          | (go_at_call 15; (with_reducible refine ((Q8 (by simp)).out _).mono ?_); rintro e r8 ⟨rfl, hT⟩; have R8 := Lib.hid (R7.out.trans hT (by simp)); clear hT))
        go_ret
        exact ⟨by simp, CL.out _ R8.out⟩
    · have hn1 : (N == 0) = false := by simpa using hm
      by_cases hm : M = 0
      · subst hm
        go_wp2_with (first
          | (go_at_call 14; (with_reducible refine ((Q7 (by simp)).out _).mono ?_); rintro e r7 ⟨rfl, hT⟩; have R7 := Lib.hid (R6.out.trans hT (by simp)); clear hT; obtain ⟨z0, z1, z2, z3, z4, z5⟩ := HS.out _ R7.out)
          | (go_at_call 15; (with_reducible refine ((Q8 (by simp)).out _).mono ?_); rintro e r8 ⟨rfl, hT⟩; have R8 := Lib.hid (R7.out.trans hT (by simp)); clear hT))
        go_ret
        exact ⟨by simp, CL.out _ R8.out⟩
      · have hm1 : (M == 0) = false := by simpa using hm
        go_wp2_with (first
          | (go_at_call 14; (with_reducible refine ((Q7 (by simp)).out _).mono ?_); rintro e r7 ⟨rfl, hT⟩; have R7 := Lib.hid (R6.out.trans hT (by simp)); clear hT; obtain ⟨z0, z1, z2, z3, z4, z5⟩ := HS.out _ R7.out)
          | (go_at_call 15; (with_reducible refine ((Q8 (by simp)).out _).mono ?_); rintro e r8 ⟨rfl, hT⟩; have R8 := Lib.hid (R7.out.trans hT (by simp)); clear hT))
        go_ret
        exact ⟨by simp, CL.out _ R8.out⟩
theorem opsPack_any (c k a b p v : Int) (w : World) (hk : Kn w) :
    Calls Tryd.prog 3 #[.agg #[.int .i64 c, .int .i64 k, .int .i64 a, .int .i64 b], .agg #[.int .i64 p, .int .i64 v]] w fun e w' => e = .returned (.bool true) ∧ Frm.Turn [] w w' := by
  refine opsPack_form c k a b p v (opP c k a b) (respP p v) (opT.rightB c k a b) (respT.rightB p v 0 0) w hk (fun h => by unfold opP; rw [h]; rfl) (fun h => by unfold respP; rw [h]; rfl) ?_ ?_
    (Lib.hid fun W h => pack_any c k a b W h) (Lib.hid fun W h => packResp_any p v W h) (Lib.hid fun W h => right_any c k a b W h) (Lib.hid fun W => refRight_any c k a b W) (Lib.hid fun W h => rightResp_any p v W h) (Lib.hid fun W => refRightResp_any p v W) (fun h => Lib.hid fun W => ?_) (fun h => Lib.hid fun W => ?_)
  · unfold opP
    split
    · rename_i h
      have := op_range h
      unfold opN; omega
    · exact Int.le_refl _
  · unfold respP
    split
    · rename_i h
      have := resp_range h
      unfold respN; omega
    · exact Int.le_refl _
  · have e : opP c k a b = opN c k a b := by unfold opP; rw [h]; rfl
    rw [e]; exact refPack_any c k a b W h
  · have e : respP p v = respN p v := by unfold respP; rw [h]; rfl
    rw [e]; exact refPackResp_any p v W h
end Ops
end Go.Proofs.YtlfejjegegdbnaaDoor
