/- The document's texts: contracts of the calls. -/
import Derived.Test.YtlfejjegegdbnaaDoorOpsDigits
import Derived.Test.YtlfejjegegdbnaaDoorOpsTexts
import Derived.Deep.RegionHeld3
set_option linter.unusedVariables false
set_option linter.unusedSimpArgs false
namespace Go.Proofs.YtlfejjegegdbnaaDoor
namespace Ops
open Go.RowKit Go.Lib

theorem uses_pos (n : Nat) (h : n < 15) : (0 < opT.m0 n ↔ usesOf n % 2 = 1) ∧ (0 < opT.m1 n ↔ usesOf n / 2 % 2 = 1) ∧ (0 < opT.m2 n ↔ 3 < usesOf n) := by
  obtain ⟨_, h0, h1, h2⟩ := uses_most n h
  rw [h0, h1, h2]
  refine ⟨?_, ?_, ?_⟩ <;> (split <;> simp_all)
theorem uses_vals : ∀ n : Nat, n < 15 → usesOf n = 0 ∨ usesOf n = 1 ∨ usesOf n = 2 ∨ usesOf n = 3 ∨ usesOf n = 7 := by decide
/-- The text of a right operation, by what is used. -/
def utxt (n : List UInt8) (u k a b : Int) : List UInt8 := n ++ (if u % 2 = 1 then 32 :: itoa k else []) ++ (if u / 2 % 2 = 1 then 32 :: itoa a else []) ++ (if 3 < u then 32 :: itoa b else [])
theorem text_uses {c k a b : Int} (h : opT.rightB c k a b = true) : opT.text c k a b = utxt (opT.nm c.toNat) (usesOf c.toNat) k a b := by
  obtain ⟨⟨c0, c1⟩, _⟩ := op_range h
  obtain ⟨h0, h1, h2⟩ := uses_pos c.toNat (by omega)
  unfold Tab.text txt seg utxt
  rw [if_pos h]
  simp only [h0, h1, h2]
theorem add_two (a b : List UInt8) (ha : a.length ≤ 1000000) (hb : b.length ≤ 1000000) (W : World) :
    (Op.stringOp .add ⟨#[32]⟩ ⟨b.toArray⟩).run Tryd.prog W = .ok (.string ⟨(32 :: b).toArray⟩) W ∧ (Op.stringOp .add ⟨a.toArray⟩ ⟨(32 :: b).toArray⟩).run Tryd.prog W = .ok (.string ⟨(a ++ 32 :: b).toArray⟩) W :=
  ⟨run_string_add_lists W [32] b (by simp) (by omega), run_string_add_lists W a (32 :: b) (by omega) (by simp; omega)⟩

set_option maxRecDepth 100000 in
set_option maxHeartbeats 8000000 in
theorem refText_any (c k a b : Int) (w : World) :
    Calls Tryd.prog 25 #[.agg #[.int .i64 c, .int .i64 k, .int .i64 a, .int .i64 b]] w fun e w' => e = .returned (.string ⟨(opT.text c k a b).toArray⟩) ∧ Frm.Turn [] w w' := by
  have HT := Lib.hid ((Frm.Turn.refl [] w).alloc (.cells #[.int .i64 c, .int .i64 k, .int .i64 a, .int .i64 b] 23))
  have HR := Lib.hid (refRight_any c k a b (w.alloc (.cells #[.int .i64 c, .int .i64 k, .int .i64 a, .int .i64 b] 23)))
  have HB : Hid ((w.alloc (.cells #[.int .i64 c, .int .i64 k, .int .i64 a, .int .i64 b] 23)).heap[w.heap.size]? = some (.cells #[.int .i64 c, .int .i64 k, .int .i64 a, .int .i64 b] 23 (0, 0))) := Lib.hid (World.alloc_heap_new w _)
  cases hr : opT.rightB c k a b
  · have HX := Lib.hid (text_wrong hr)
    rw [hr] at HR
    clear hr
    go_enter Tryd.func25, Tryd.ntmps25
    go_wp2_with (go_at_call 11; (with_reducible refine (HR.out).mono ?_); rintro e w1 ⟨rfl, hT⟩; have HT1 := Lib.hid ((HT.out).trans hT (by simp)); clear hT)
    go_ret
    exact ⟨by rw [HX.out]; rfl, HT1.out⟩
  · have HX := Lib.hid (text_uses hr)
    obtain ⟨⟨c0, c1⟩, ⟨k0, k1⟩, ⟨a0, a1⟩, b0, b1⟩ := op_range hr
    rw [hr] at HR
    have HN := Lib.hid (fun W => name_any c W ⟨c0, c1⟩)
    have HU := Lib.hid (fun W => uses_any c W ⟨c0, c1⟩)
    have hu := uses_vals c.toNat (by omega)
    have hl := opT_short c.toNat (show c.toNat < 15 by omega)
    obtain ⟨u, hue⟩ : ∃ u, u = usesOf c.toNat := ⟨_, rfl⟩
    obtain ⟨nm, hnm⟩ : ∃ nm, nm = opT.nm c.toNat := ⟨_, rfl⟩
    rw [← hue] at hu HU HX
    rw [← hnm] at hl HN HX
    clear hue hnm hr
    have lk := itoa_len k k0 (by omega)
    have la := itoa_len a a0 (by omega)
    have lb := itoa_len b b0 (by omega)
    have DK := Lib.hid (fun W => digits_any k W k0 (by omega))
    have DA := Lib.hid (fun W => digits_any a W a0 (by omega))
    have DB := Lib.hid (fun W => digits_any b W b0 (by omega))
    obtain ⟨A1, hA1⟩ : ∃ A, A = nm ++ 32 :: itoa k := ⟨_, rfl⟩
    obtain ⟨Aa, hAa⟩ : ∃ A, A = nm ++ 32 :: itoa a := ⟨_, rfl⟩
    obtain ⟨A2, hA2⟩ : ∃ A, A = A1 ++ 32 :: itoa a := ⟨_, rfl⟩
    obtain ⟨A3, hA3⟩ : ∃ A, A = A2 ++ 32 :: itoa b := ⟨_, rfl⟩
    have l1 : A1.length ≤ 1010 := by rw [hA1]; simp; omega
    have l2 : A2.length ≤ 1020 := by rw [hA2]; simp; omega
    have S1 := Lib.hid (fun W => add_two nm (itoa k) (by omega) (by omega) W)
    have S2 := Lib.hid (fun W => add_two nm (itoa a) (by omega) (by omega) W)
    have S3 := Lib.hid (fun W => add_two A1 (itoa a) (by omega) (by omega) W)
    have S4 := Lib.hid (fun W => add_two A2 (itoa b) (by omega) (by omega) W)
    rw [← hA1] at S1
    rw [← hAa] at S2
    rw [← hA2] at S3
    rw [← hA3] at S4
    have E1 := Lib.hid hA1
    have Ea := Lib.hid hAa
    have E2 := Lib.hid hA2
    have E3 := Lib.hid hA3
    clear hA1 hAa hA2 hA3 l1 l2
    clear lk la lb hl
    go_enter Tryd.func25, Tryd.ntmps25
    go_upto_region 5 with (first
      | (go_at_call 11; (with_reducible refine (HR.out).mono ?_); rintro e w1 ⟨rfl, hT⟩; obtain ⟨⟨d0, d1, d2, d3⟩, _⟩ := blk4 (hT.keep HB.out (by simp)); have HB1 := Lib.hid (hT.keep HB.out (by simp)); have HT1 := Lib.hid ((HT.out).trans hT (by simp)); clear hT)
      | (go_at_call 36; (with_reducible refine (HN.out _).mono ?_); rintro e w2 ⟨rfl, hT⟩; obtain ⟨⟨g0, g1, g2, g3⟩, _⟩ := blk4 (hT.keep HB1.out (by simp)); have HB2 := Lib.hid (hT.keep HB1.out (by simp)); have HT2 := Lib.hid ((HT1.out).trans hT (by simp)); clear hT)
      | (go_at_call 29; (with_reducible refine (HU.out _).mono ?_); rintro e w3 ⟨rfl, hT⟩; obtain ⟨⟨h0, h1, h2, h3⟩, _⟩ := blk4 (hT.keep HB2.out (by simp)); have HB3 := Lib.hid (hT.keep HB2.out (by simp)); have HT3 := Lib.hid ((HT2.out).trans hT (by simp)); clear hT))
    clear d0 d1 d2 d3 g0 g1 g2 g3
    rcases hu with rfl | rfl | rfl | rfl | rfl
    · go_wp2
      go_ret
      exact ⟨by rw [HX.out]; unfold utxt; simp, HT3.out⟩
    · go_wp2_with (go_at_call 40; (with_reducible refine (DK.out _).mono ?_); rintro e w4 ⟨rfl, hT⟩; obtain ⟨s1, s2⟩ := S1.out w4; have HT4 := Lib.hid ((HT3.out).trans hT (by simp)); clear hT)
      go_ret
      exact ⟨by rw [HX.out, E1.out]; unfold utxt; simp, HT4.out⟩
    · go_wp2_with (go_at_call 40; (with_reducible refine (DA.out _).mono ?_); rintro e w4 ⟨rfl, hT⟩; obtain ⟨s1, s2⟩ := S2.out w4; have HT4 := Lib.hid ((HT3.out).trans hT (by simp)); clear hT)
      go_ret
      exact ⟨by rw [HX.out, Ea.out]; unfold utxt; simp, HT4.out⟩
    · go_wp2_with (first
        | (go_at_call 40; (with_reducible refine (DA.out w4).mono ?_); rintro e w5 ⟨rfl, hT⟩; obtain ⟨s3, s4⟩ := S3.out w5; have HT5 := Lib.hid ((HT4.out).trans hT (by simp)); clear hT)
        | (go_at_call 40; (with_reducible refine (DK.out _).mono ?_); rintro e w4 ⟨rfl, hT⟩; obtain ⟨s1, s2⟩ := S1.out w4; obtain ⟨⟨m0, m1, m2, m3⟩, _⟩ := blk4 (hT.keep HB3.out (by simp)); have HT4 := Lib.hid ((HT3.out).trans hT (by simp)); clear hT))
      go_ret
      exact ⟨by rw [HX.out, E2.out, E1.out]; unfold utxt; simp, HT5.out⟩
    · go_wp2_with (first
        | (go_at_call 40; (with_reducible refine (DB.out w5).mono ?_); rintro e w6 ⟨rfl, hT⟩; obtain ⟨s5, s6⟩ := S4.out w6; have HT6 := Lib.hid ((HT5.out).trans hT (by simp)); clear hT)
        | (go_at_call 40; (with_reducible refine (DA.out w4).mono ?_); rintro e w5 ⟨rfl, hT⟩; obtain ⟨s3, s4⟩ := S3.out w5; obtain ⟨⟨n0, n1, n2, n3⟩, _⟩ := blk4 (hT.keep HB4.out (by simp)); have HT5 := Lib.hid ((HT4.out).trans hT (by simp)); clear hT)
        | (go_at_call 40; (with_reducible refine (DK.out _).mono ?_); rintro e w4 ⟨rfl, hT⟩; obtain ⟨s1, s2⟩ := S1.out w4; have HB4 := Lib.hid (hT.keep HB3.out (by simp)); obtain ⟨⟨m0, m1, m2, m3⟩, _⟩ := blk4 HB4.out; have HT4 := Lib.hid ((HT3.out).trans hT (by simp)); clear hT))
      go_ret
      exact ⟨by rw [HX.out, E3.out, E2.out, E1.out]; unfold utxt; simp, HT6.out⟩

set_option maxRecDepth 100000 in
set_option maxHeartbeats 4000000 in
theorem refTextResp_any (k v : Int) (w : World) :
    Calls Tryd.prog 27 #[.agg #[.int .i64 k, .int .i64 v]] w fun e w' => e = .returned (.string ⟨(respT.text k v 0 0).toArray⟩) ∧ Frm.Turn [] w w' := by
  have HT := Lib.hid ((Frm.Turn.refl [] w).alloc (.cells #[.int .i64 k, .int .i64 v] 25))
  have HR := Lib.hid (refRightResp_any k v (w.alloc (.cells #[.int .i64 k, .int .i64 v] 25)))
  have HB : Hid ((w.alloc (.cells #[.int .i64 k, .int .i64 v] 25)).heap[w.heap.size]? = some (.cells #[.int .i64 k, .int .i64 v] 25 (0, 0))) := Lib.hid (World.alloc_heap_new w _)
  cases hr : respT.rightB k v 0 0
  · have HX := Lib.hid (text_wrong hr)
    rw [hr] at HR
    clear hr
    go_enter Tryd.func27, Tryd.ntmps27
    go_wp2_with (go_at_call 13; (with_reducible refine (HR.out).mono ?_); rintro e w1 ⟨rfl, hT⟩; have HT1 := Lib.hid ((HT.out).trans hT (by simp)); clear hT)
    go_ret
    exact ⟨by rw [HX.out]; rfl, HT1.out⟩
  · have hX : respT.text k v 0 0 = respT.nm k.toNat ++ (if k = 0 ∨ k = 4 then 32 :: itoa v else []) := by
      obtain ⟨⟨k0, k1⟩, _⟩ := resp_range hr
      obtain ⟨_, h1, h2⟩ := most_resp k.toNat (show k.toNat < 6 by omega)
      have h0 := resp_kinds k.toNat (by omega)
      unfold Tab.text txt
      rw [if_pos hr, h1, h2, h0, seg_no 0 0 (by omega)]
      by_cases hk : k = 0 ∨ k = 4
      · rw [if_pos hk, if_pos (by omega), seg_some _ _ (by omega)]; simp
      · rw [if_neg hk, if_neg (by omega), seg_no _ _ (by omega)]; simp
    have HX := Lib.hid hX
    obtain ⟨⟨k0, k1⟩, v0, v1⟩ := resp_range hr
    rw [hr] at HR
    have HN := Lib.hid (fun W => kind_any k W ⟨k0, k1⟩)
    have hl := respT_short k.toNat (show k.toNat < 6 by omega)
    obtain ⟨nm, hnm⟩ : ∃ nm, nm = respT.nm k.toNat := ⟨_, rfl⟩
    rw [← hnm] at hl HN HX
    have lv := itoa_len v v0 (by omega)
    have DV := Lib.hid (fun W => digits_any v W v0 (by omega))
    obtain ⟨A1, hA1⟩ : ∃ A, A = nm ++ [32] := ⟨_, rfl⟩
    obtain ⟨A2, hA2⟩ : ∃ A, A = A1 ++ itoa v := ⟨_, rfl⟩
    have l1 : A1.length ≤ 1010 := by rw [hA1]; simp; omega
    have sa : ∀ W : World, (Op.stringOp .add ⟨nm.toArray⟩ ⟨#[32]⟩).run Tryd.prog W = .ok (.string ⟨A1.toArray⟩) W := fun W => by rw [hA1]; exact run_string_add_lists W nm [32] (by omega) (by simp)
    have sb : ∀ W : World, (Op.stringOp .add ⟨A1.toArray⟩ ⟨(itoa v).toArray⟩).run Tryd.prog W = .ok (.string ⟨A2.toArray⟩) W := fun W => by rw [hA2]; exact run_string_add_lists W A1 (itoa v) (by omega) (by omega)
    have E1 := Lib.hid hA1
    have E2 := Lib.hid hA2
    have HS : Hid (∀ W', Frm.Turn [] (w.alloc (.cells #[.int .i64 k, .int .i64 v] 25)) W' → (W').cell? ⟨w.heap.size, 0, none⟩ = some (.int .i64 k) ∧ (W').cell? ⟨w.heap.size, 1, none⟩ = some (.int .i64 v)) := Lib.hid (fun W' hT => (blk2 (hT.keep HB.out (by simp))).1)
    have CL : Hid (∀ W', Frm.Turn [] (w.alloc (.cells #[.int .i64 k, .int .i64 v] 25)) W' → Frm.Turn [] w W') := Lib.hid (fun W' hT => HT.out.trans hT (by simp))
    clear hnm hr hX lv hl hA1 hA2 l1 HT HB
    have hk : (k = 0 ∨ (k ≠ 0 ∧ k = 4)) ∨ (k ≠ 0 ∧ k ≠ 4) := by omega
    go_enter Tryd.func27, Tryd.ntmps27
    go_upto_region 1 with fail
    generalize (w.alloc (.cells #[.int .i64 k, .int .i64 v] 25)) = W0 at HR HS CL ⊢
    obtain ⟨z0, z1⟩ := HS.out _ (Frm.Turn.refl [] _)
    go_upto_region 3 with (go_at_call 13; (with_reducible refine (HR.out).mono ?_); rintro e w1 ⟨rfl, hT⟩; have T1 := Lib.hid hT; clear hT; obtain ⟨d0, d1⟩ := HS.out _ T1.out)
    have T1d := Lib.hid (T1.out.drew)
    rcases hk with (rfl | ⟨h1, rfl⟩) | ⟨h1, h2⟩
    · go_wp2
      go_region_held3 (fun w' => (w').cell? ⟨w.heap.size, 0, none⟩ = some (.int .i64 0) ∧ (w').cell? ⟨w.heap.size, 1, none⟩ = some (.int .i64 v))
        (first | exact HS.out _ T1d.out | exact HS.out _ T2.out | exact HS.out _ T3.out | go_keep)
        (first
          | (go_at_call 40; (with_reducible refine (DV.out w2).mono ?_); rintro e w3 ⟨rfl, hT⟩; have T3 := Lib.hid (T2.out.trans hT (by simp)); clear hT)
          | (go_at_call 38; (with_reducible refine (HN.out _).mono ?_); rintro e w2 ⟨rfl, hT⟩; have T2 := Lib.hid (T1d.out.trans hT (by simp)); clear hT))
      go_wp2
      go_ret
      exact ⟨by rw [HX.out, E2.out, E1.out]; simp, CL.out _ T3.out⟩
    · go_wp2
      go_region_held3 (fun w' => (w').cell? ⟨w.heap.size, 0, none⟩ = some (.int .i64 4) ∧ (w').cell? ⟨w.heap.size, 1, none⟩ = some (.int .i64 v))
        (first | exact HS.out _ T1d.out | exact HS.out _ T2.out | exact HS.out _ T3.out | go_keep)
        (first
          | (go_at_call 40; (with_reducible refine (DV.out w2).mono ?_); rintro e w3 ⟨rfl, hT⟩; have T3 := Lib.hid (T2.out.trans hT (by simp)); clear hT)
          | (go_at_call 38; (with_reducible refine (HN.out _).mono ?_); rintro e w2 ⟨rfl, hT⟩; have T2 := Lib.hid (T1d.out.trans hT (by simp)); clear hT))
      go_wp2
      go_ret
      exact ⟨by rw [HX.out, E2.out, E1.out]; simp, CL.out _ T3.out⟩
    · have q1 : (k == 0) = false := by simpa using h1
      have q2 : (k == 4) = false := by simpa using h2
      go_wp2_with (go_at_call 38; (with_reducible refine (HN.out _).mono ?_); rintro e w2 ⟨rfl, hT⟩; have T2 := Lib.hid (T1.out.trans hT (by simp)); clear hT)
      go_ret
      exact ⟨by rw [HX.out, if_neg (by omega)]; simp, CL.out _ T2.out⟩
end Ops
end Go.Proofs.YtlfejjegegdbnaaDoor
