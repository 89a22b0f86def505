/- Text, TextResp: contracts of the calls. -/
import Derived.Test.YtlfejjegegdbnaaDoorOpsText
import Derived.Test.YtlfejjegegdbnaaDoorOpsRight
import Derived.Deep.Cut
import Derived.RangeFuncRecord
set_option linter.unusedVariables false
set_option linter.unusedSimpArgs false
namespace Go.Proofs.YtlfejjegegdbnaaDoor
namespace Ops
open Go.RowKit Go.Lib

theorem opT_short : ∀ c, c < opT.length → (opT.nm c).length ≤ 1000 := by decide
theorem respT_short : ∀ c, c < respT.length → (respT.nm c).length ≤ 1000 := by decide

theorem otext_cells {W : World} {g : Nat} {c k a b : Int} (h : W.heap[g]? = some (.cells #[.int .i64 c, .int .i64 k, .int .i64 a, .int .i64 b] 23 (0, 0))) : W.cell? ⟨g, 0, none⟩ = some (.int .i64 c) ∧ W.cell? ⟨g, 1, none⟩ = some (.int .i64 k) ∧ W.cell? ⟨g, 2, none⟩ = some (.int .i64 a) ∧ W.cell? ⟨g, 3, none⟩ = some (.int .i64 b) := by
  refine ⟨?_, ?_, ?_, ?_⟩ <;> (rw [Frm.cell_row _ _ _ _ _ _ h]; rfl)
set_option maxRecDepth 100000 in
set_option maxHeartbeats 2000000 in
theorem otext_any (c k a b : Int) (w : World) (hk : Kn w) :
    Calls Tryd.prog 24 #[.agg #[.int .i64 c, .int .i64 k, .int .i64 a, .int .i64 b]] w fun e w' => e = .returned (.string ⟨(opT.text c k a b).toArray⟩) ∧ Frm.Turn [] w w' := by
  have HT := Lib.hid ((Frm.Turn.refl [] w).alloc (.cells #[.int .i64 c, .int .i64 k, .int .i64 a, .int .i64 b] 23))
  have HR := Lib.hid (right_any c k a b (w.alloc (.cells #[.int .i64 c, .int .i64 k, .int .i64 a, .int .i64 b] 23)) (hk.turn HT.out))
  have HB : Hid ((w.alloc (.cells #[.int .i64 c, .int .i64 k, .int .i64 a, .int .i64 b] 23)).heap[w.heap.size]? = some (.cells #[.int .i64 c, .int .i64 k, .int .i64 a, .int .i64 b] 23 (0, 0))) := Lib.hid (World.alloc_heap_new w _)
  cases hr : opT.rightB c k a b
  · have HX := Lib.hid (text_wrong hr)
    rw [hr] at HR
    clear hr hk
    go_enter Tryd.func24, Tryd.ntmps24
    go_wp2_with (go_at_call 10; (with_reducible refine (HR.out).mono ?_); rintro e w1 ⟨rfl, hT⟩; have HT1 := Lib.hid ((HT.out).trans hT (by simp)); clear hT)
    go_ret
    exact ⟨by rw [HX.out]; rfl, HT1.out⟩
  · obtain ⟨n, rfl, hn, p0, p1, p2⟩ := right_parts hr
    have hal : allowB (opT.m0 n) (opT.m1 n) (opT.m2 n) k a b = true := by
      unfold Tab.rightB at hr
      simp only [Bool.and_eq_true] at hr
      exact hr.2
    have hx : opT.text n k a b = txt (opT.nm n) (opT.m0 n) (opT.m1 n) (opT.m2 n) k a b := by unfold Tab.text; rw [if_pos hr]; rfl
    rw [hr] at HR
    have HM := Lib.hid (opT_good.most n hn)
    have hnl : (opT.nm n).length ≤ 1000 := opT_short n hn
    have HF := Lib.hid (fun W hkW => ftext_any (opT.nm n) (opT.m0 n) (opT.m1 n) (opT.m2 n) k a b W hkW hnl HM.out hal)
    rw [← hx] at HF
    have HK := Lib.hid hk
    have t3 : (n : Int) < 15 := by have h2 : n < 15 := hn; omega
    have HN := Lib.hid hn
    clear hr hk hal hx hnl hn p0 p1 p2
    go_enter Tryd.func24, Tryd.ntmps24
    go_upto_region 3 with (go_at_call 10; (with_reducible refine (HR.out).mono ?_); rintro e w1 ⟨rfl, hT⟩; have HB1 := Lib.hid (hT.keep HB.out (by simp)); have HT1 := Lib.hid ((HT.out).trans hT (by simp)); clear hT)
    have HK1 := Lib.hid (HK.out.turn HT1.out)
    obtain ⟨h0, h1, h2, h3⟩ := HK1.out.ops n HN.out
    have e0 : 4 * n = n * 4 := by omega
    rw [e0] at h0 h1 h2 h3
    obtain ⟨d0, d1, d2, d3⟩ := otext_cells HB1.out
    clear e0
    refine wp_tail 11 (by kernel_rfl) (by kernel_rfl) ?_
    simp only [List.take_succ_cons, List.take_zero, List.drop_succ_cons, List.drop_zero]
    iterate 11 still_step
    refine wpStill_nil ?_
    have HF1 := Lib.hid (HF.out w1.drew (HK1.out.turn (Frm.Turn.refl [] w1).drew))
    go_wp2_with (go_at_call 39; (with_reducible refine (HF1.out).mono ?_); rintro e w2 ⟨rfl, hT⟩; have HT2 := Lib.hid ((HT1.out.drew).trans hT (by simp)); clear hT)
    go_ret
    exact ⟨rfl, HT2.out⟩

theorem rtext_cells {W : World} {g : Nat} {c v : Int} (h : W.heap[g]? = some (.cells #[.int .i64 c, .int .i64 v] 25 (0, 0))) : W.cell? ⟨g, 0, none⟩ = some (.int .i64 c) ∧ W.cell? ⟨g, 1, none⟩ = some (.int .i64 v) := by
  refine ⟨?_, ?_⟩ <;> (rw [Frm.cell_row _ _ _ _ _ _ h]; rfl)
set_option maxRecDepth 100000 in
set_option maxHeartbeats 2000000 in
theorem rtext_any (c v : Int) (w : World) (hk : Kn w) :
    Calls Tryd.prog 26 #[.agg #[.int .i64 c, .int .i64 v]] w fun e w' => e = .returned (.string ⟨(respT.text c v 0 0).toArray⟩) ∧ Frm.Turn [] w w' := by
  have HT := Lib.hid ((Frm.Turn.refl [] w).alloc (.cells #[.int .i64 c, .int .i64 v] 25))
  have HR := Lib.hid (rightResp_any c v (w.alloc (.cells #[.int .i64 c, .int .i64 v] 25)) (hk.turn HT.out))
  have HB : Hid ((w.alloc (.cells #[.int .i64 c, .int .i64 v] 25)).heap[w.heap.size]? = some (.cells #[.int .i64 c, .int .i64 v] 25 (0, 0))) := Lib.hid (World.alloc_heap_new w _)
  cases hr : respT.rightB c v 0 0
  · have HX := Lib.hid (text_wrong hr)
    rw [hr] at HR
    clear hr hk
    go_enter Tryd.func26, Tryd.ntmps26
    go_wp2_with (go_at_call 12; (with_reducible refine (HR.out).mono ?_); rintro e w1 ⟨rfl, hT⟩; have HT1 := Lib.hid ((HT.out).trans hT (by simp)); clear hT)
    go_ret
    exact ⟨by rw [HX.out]; rfl, HT1.out⟩
  · obtain ⟨n, rfl, hn, p0, p1, p2⟩ := right_parts hr
    have hal : allowB (respT.m0 n) (respT.m1 n) (respT.m2 n) v 0 0 = true := by
      unfold Tab.rightB at hr
      simp only [Bool.and_eq_true] at hr
      exact hr.2
    have hx : respT.text n v 0 0 = txt (respT.nm n) (respT.m0 n) (respT.m1 n) (respT.m2 n) v 0 0 := by unfold Tab.text; rw [if_pos hr]; rfl
    rw [hr] at HR
    have HM := Lib.hid (respT_good.most n hn)
    have hnl : (respT.nm n).length ≤ 1000 := respT_short n hn
    have HF := Lib.hid (fun W hkW => ftext_any (respT.nm n) (respT.m0 n) (respT.m1 n) (respT.m2 n) v 0 0 W hkW hnl HM.out hal)
    rw [← hx] at HF
    have HK := Lib.hid hk
    have t3 : (n : Int) < 6 := by have h2 : n < 6 := hn; omega
    have HN := Lib.hid hn
    clear hr hk hal hx hnl hn p0 p1 p2
    go_enter Tryd.func26, Tryd.ntmps26
    go_upto_region 3 with (go_at_call 12; (with_reducible refine (HR.out).mono ?_); rintro e w1 ⟨rfl, hT⟩; have HB1 := Lib.hid (hT.keep HB.out (by simp)); have HT1 := Lib.hid ((HT.out).trans hT (by simp)); clear hT)
    have HK1 := Lib.hid (HK.out.turn HT1.out)
    obtain ⟨h0, h1, h2, h3⟩ := HK1.out.resps n HN.out
    have e0 : 4 * n = n * 4 := by omega
    rw [e0] at h0 h1 h2 h3
    obtain ⟨d0, d1⟩ := rtext_cells HB1.out
    clear e0
    refine wp_tail 7 (by kernel_rfl) (by kernel_rfl) ?_
    simp only [List.take_succ_cons, List.take_zero, List.drop_succ_cons, List.drop_zero]
    iterate 7 still_step
    refine wpStill_nil ?_
    have HF1 := Lib.hid (HF.out w1.drew (HK1.out.turn (Frm.Turn.refl [] w1).drew))
    go_wp2_with (go_at_call 39; (with_reducible refine (HF1.out).mono ?_); rintro e w2 ⟨rfl, hT⟩; have HT2 := Lib.hid ((HT1.out.drew).trans hT (by simp)); clear hT)
    go_ret
    exact ⟨rfl, HT2.out⟩
end Ops
end Go.Proofs.YtlfejjegegdbnaaDoor
