/- More of the document's answers of layer 5 on numbers: contracts of the calls. -/
import Derived.Test.YtlfejjegegdbnaaDoorOpsRefs
set_option linter.unusedVariables false
set_option linter.unusedSimpArgs false
namespace Go.Proofs.YtlfejjegegdbnaaDoor
namespace Ops
open Go.RowKit Go.Lib

theorem resp_kinds : ∀ n : Nat, n < 6 → respT.m0 n = if n = 0 ∨ n = 4 then 268435455 else 0 := by decide
theorem resp_near (n : Nat) (v : Int) (hn : n < 6) (hv : 0 ≤ v ∧ v ≤ 268435455) : respT.rightB n v 0 0 = decide (v = 0 ∨ n = 0 ∨ n = 4) := by
  have h0 := resp_kinds n hn
  obtain ⟨_, h1, h2⟩ := most_resp n hn
  have hl : respT.length = 6 := rfl
  have e1 : ((n : Int)).toNat = n := by omega
  unfold Tab.rightB allowB okB
  rw [e1, h0, h1, h2, Bool.eq_iff_iff]
  simp only [Bool.and_eq_true, decide_eq_true_eq]
  rw [hl]
  constructor
  · rintro ⟨_, ⟨p0, p1⟩, p2⟩
    split at p0 <;> omega
  · intro p0
    refine ⟨by omega, ⟨?_, by omega⟩, by omega⟩
    split <;> omega
theorem resp_far {k v : Int} (h : ¬ ((0 ≤ k ∧ k ≤ 5) ∧ (0 ≤ v ∧ v ≤ 268435455))) : respT.rightB k v 0 0 = false := by
  cases e : respT.rightB k v 0 0 with
  | false => rfl
  | true => exact absurd (resp_range e) h

set_option maxRecDepth 100000 in
set_option maxHeartbeats 2000000 in
theorem refRightResp_any (k v : Int) (w : World) :
    Calls Tryd.prog 13 #[.agg #[.int .i64 k, .int .i64 v]] w fun e w' => e = .returned (.bool (respT.rightB k v 0 0)) ∧ Frm.Turn [] w w' := by
  by_cases h : (0 ≤ k ∧ k ≤ 5) ∧ (0 ≤ v ∧ v ≤ 268435455)
  · obtain ⟨⟨k0, k1⟩, v0, v1⟩ := h
    have hri := resp_near k.toNat v (by omega) ⟨v0, v1⟩
    rw [show ((k.toNat : Nat) : Int) = k from by omega] at hri
    have HX : ∀ r : Bool, (r = true ↔ (v = 0 ∨ k = 0 ∨ k = 4)) → Hid (respT.rightB k v 0 0 = r) := by
      intro r hr
      refine Lib.hid ?_
      rw [hri, Bool.eq_iff_iff, hr]
      simp only [decide_eq_true_eq]
      omega
    clear hri
    have h' : v = 0 ∨ (v ≠ 0 ∧ k = 0) ∨ (v ≠ 0 ∧ k ≠ 0 ∧ k = 4) ∨ (v ≠ 0 ∧ k ≠ 0 ∧ k ≠ 4) := by omega
    rcases h' with rfl | ⟨h1, rfl⟩ | ⟨h1, h2, rfl⟩ | ⟨h1, h2, h3⟩
    · have HR := HX true (by simp)
      clear HX
      go_enter Tryd.func13, Tryd.ntmps13
      go_wp2
      go_ret
      exact ⟨by rw [HR.out]; rfl, (Frm.Turn.refl [] w).alloc _⟩
    · have HR := HX true (by simp)
      have q1 : (v == 0) = false := by simpa using h1
      clear HX
      go_enter Tryd.func13, Tryd.ntmps13
      go_wp2
      go_ret
      exact ⟨by rw [HR.out]; rfl, (Frm.Turn.refl [] w).alloc _⟩
    · have HR := HX true (by simp)
      have q1 : (v == 0) = false := by simpa using h1
      clear HX
      go_enter Tryd.func13, Tryd.ntmps13
      go_wp2
      go_ret
      exact ⟨by rw [HR.out]; rfl, (Frm.Turn.refl [] w).alloc _⟩
    · have HR := HX false (by simp; omega)
      have q1 : (v == 0) = false := by simpa using h1
      have q2 : (k == 0) = false := by simpa using h2
      have q3 : (k == 4) = false := by simpa using h3
      clear HX
      go_enter Tryd.func13, Tryd.ntmps13
      go_wp2
      go_ret
      exact ⟨by rw [HR.out]; rfl, (Frm.Turn.refl [] w).alloc _⟩
  · have HR := Lib.hid (resp_far h)
    have h' : k < 0 ∨ (0 ≤ k ∧ 5 < k) ∨ (0 ≤ k ∧ k ≤ 5 ∧ v < 0) ∨ (0 ≤ k ∧ k ≤ 5 ∧ 0 ≤ v ∧ 268435455 < v) := by omega
    clear h
    rcases h' with h1 | ⟨h1, h2⟩ | ⟨h1, h2, h3⟩ | ⟨h1, h2, h3, h4⟩
    all_goals
      go_enter Tryd.func13, Tryd.ntmps13
      go_wp2
      go_ret
      exact ⟨by rw [HR.out]; rfl, (Frm.Turn.refl [] w).alloc _⟩

set_option maxRecDepth 100000 in
theorem refPack_any (c k a b : Int) (w : World) (h : opT.rightB c k a b = true) :
    Calls Tryd.prog 14 #[.agg #[.int .i64 c, .int .i64 k, .int .i64 a, .int .i64 b]] w fun e w' => e = .returned (.int .u64 (opN c k a b)) ∧ Frm.Turn [] w w' := by
  obtain ⟨⟨c0, c1⟩, ⟨k0, k1⟩, ⟨a0, a1⟩, b0, b1⟩ := op_range h
  clear h
  go_enter Tryd.func14, Tryd.ntmps14
  go_wp2
  go_ret
  exact ⟨rfl, (Frm.Turn.refl [] w).alloc _⟩
theorem refPackResp_any (k v : Int) (w : World) (h : respT.rightB k v 0 0 = true) :
    Calls Tryd.prog 15 #[.agg #[.int .i64 k, .int .i64 v]] w fun e w' => e = .returned (.int .u64 (respN k v)) ∧ Frm.Turn [] w w' := by
  obtain ⟨⟨k0, k1⟩, v0, v1⟩ := resp_range h
  clear h
  go_enter Tryd.func15, Tryd.ntmps15
  go_wp2
  go_ret
  exact ⟨rfl, (Frm.Turn.refl [] w).alloc _⟩

theorem uOk_far (n : Int) (h : 4294967295 < n) : uOk n = false := right_far (by unfold uC; omega)
theorem vOk_far (n : Int) (h : 4294967295 < n) : vOk n = false := resp_far (by unfold vC; omega)

set_option maxRecDepth 100000 in
set_option maxHeartbeats 2000000 in
theorem refUnpack_any (n : Int) (w : World) (hn : W64 n) :
    Calls Tryd.prog 17 #[.int .u64 n] w fun e w' => e = .returned (.tuple #[uAns n, .bool (uOk n)]) ∧ Frm.Turn [] w w' := by
  obtain ⟨n0, n1⟩ := hn
  by_cases hf : 4294967295 < n
  · have hr := uOk_far n hf
    have HX : Hid (uAns n = .agg #[.int .i64 0, .int .i64 0, .int .i64 0, .int .i64 0]) := Lib.hid (by unfold uAns; rw [hr]; rfl)
    have HO := Lib.hid hr
    have HT1 := Lib.hid ((Frm.Turn.refl [] w).alloc (.cells #[.int .i64 0, .int .i64 0, .int .i64 0, .int .i64 0] 23))
    clear hr
    go_enter Tryd.func17, Tryd.ntmps17
    go_wp2
    rw [HX.out, HO.out]
    refine bodyPost_ret (v := .tuple #[.agg #[.int .i64 0, .int .i64 0, .int .i64 0, .int .i64 0], .bool false]) (by simp [results, Tryd.results17, go_sem]) rfl ⟨rfl, ?_⟩
    first | exact HT1.out | exact ((((HT1.out.setCell (p := ⟨w.heap.size, 0, none⟩) (.inr (Nat.le_refl _)) _).setCell (p := ⟨w.heap.size, 1, none⟩) (.inr (Nat.le_refl _)) _).setCell (p := ⟨w.heap.size, 2, none⟩) (.inr (Nat.le_refl _)) _).setCell (p := ⟨w.heap.size, 3, none⟩) (.inr (Nat.le_refl _)) _)
  · have HT := Lib.hid (((Frm.Turn.refl [] w).alloc (.cells #[.int .i64 0, .int .i64 0, .int .i64 0, .int .i64 0] 23)).alloc (.cells #[.int .i64 (n / 268435456), .int .i64 (n / 1048576 % 256), .int .i64 (n / 1024 % 1024), .int .i64 (n % 1024)] 23))
    have HB0 := Lib.hid (heap_below w (.cells #[.int .i64 0, .int .i64 0, .int .i64 0, .int .i64 0] 23) (.cells #[.int .i64 (n / 268435456), .int .i64 (n / 1048576 % 256), .int .i64 (n / 1024 % 1024), .int .i64 (n % 1024)] 23))
    have HB1 := Lib.hid (heap_last w (.cells #[.int .i64 0, .int .i64 0, .int .i64 0, .int .i64 0] 23) (.cells #[.int .i64 (n / 268435456), .int .i64 (n / 1048576 % 256), .int .i64 (n / 1024 % 1024), .int .i64 (n % 1024)] 23))
    have HR := Lib.hid (refRight_any (n / 268435456) (n / 1048576 % 256) (n / 1024 % 1024) (n % 1024) ((w.alloc (.cells #[.int .i64 0, .int .i64 0, .int .i64 0, .int .i64 0] 23)).alloc (.cells #[.int .i64 (n / 268435456), .int .i64 (n / 1048576 % 256), .int .i64 (n / 1024 % 1024), .int .i64 (n % 1024)] 23)))
    have hle : n ≤ 4294967295 := by omega
    clear hf
    cases hr : uOk n
    · have HX : Hid (uAns n = .agg #[.int .i64 0, .int .i64 0, .int .i64 0, .int .i64 0]) := Lib.hid (by unfold uAns; rw [hr]; rfl)
      have hr' : opT.rightB (n / 268435456) (n / 1048576 % 256) (n / 1024 % 1024) (n % 1024) = false := hr
      rw [hr'] at HR
      clear hr hr'
      go_enter Tryd.func17, Tryd.ntmps17
      go_wp2_with (go_at_call 11; (with_reducible refine (HR.out).mono ?_); rintro e w1 ⟨rfl, hT⟩; obtain ⟨⟨e0, e1, e2, e3⟩, f0, f1, f2, f3⟩ := blk4 (hT.keep HB0.out (by simp)); obtain ⟨⟨g0, g1, g2, g3⟩, i0, i1, i2, i3⟩ := blk4 (hT.keep HB1.out (by simp)); have HT1 := Lib.hid ((HT.out).trans hT (by simp)); clear hT)
      rw [HX.out]
      exact bodyPost_ret (v := .tuple #[.agg #[.int .i64 0, .int .i64 0, .int .i64 0, .int .i64 0], .bool false]) (by simp [results, Tryd.results17, go_sem, e0, e1, e2, e3]) rfl ⟨rfl, ((((HT1.out.setCell (p := ⟨w.heap.size, 0, none⟩) (.inr (Nat.le_refl _)) _).setCell (p := ⟨w.heap.size, 1, none⟩) (.inr (Nat.le_refl _)) _).setCell (p := ⟨w.heap.size, 2, none⟩) (.inr (Nat.le_refl _)) _).setCell (p := ⟨w.heap.size, 3, none⟩) (.inr (Nat.le_refl _)) _)⟩
    · have HX : Hid (uAns n = .agg #[.int .i64 (n / 268435456), .int .i64 (n / 1048576 % 256), .int .i64 (n / 1024 % 1024), .int .i64 (n % 1024)]) := Lib.hid (by unfold uAns; rw [hr]; rfl)
      have hr' : opT.rightB (n / 268435456) (n / 1048576 % 256) (n / 1024 % 1024) (n % 1024) = true := hr
      rw [hr'] at HR
      clear hr hr'
      go_enter Tryd.func17, Tryd.ntmps17
      go_wp2_with (go_at_call 11; (with_reducible refine (HR.out).mono ?_); rintro e w1 ⟨rfl, hT⟩; obtain ⟨⟨e0, e1, e2, e3⟩, f0, f1, f2, f3⟩ := blk4 (hT.keep HB0.out (by simp)); obtain ⟨⟨g0, g1, g2, g3⟩, i0, i1, i2, i3⟩ := blk4 (hT.keep HB1.out (by simp)); have HT1 := Lib.hid ((HT.out).trans hT (by simp)); clear hT)
      rw [HX.out]
      exact bodyPost_ret (v := .tuple #[.agg #[.int .i64 (n / 268435456), .int .i64 (n / 1048576 % 256), .int .i64 (n / 1024 % 1024), .int .i64 (n % 1024)], .bool true]) (by simp [results, Tryd.results17, go_sem, e0, e1, e2, e3]) rfl ⟨rfl, ((((HT1.out.setCell (p := ⟨w.heap.size, 0, none⟩) (.inr (Nat.le_refl _)) _).setCell (p := ⟨w.heap.size, 1, none⟩) (.inr (Nat.le_refl _)) _).setCell (p := ⟨w.heap.size, 2, none⟩) (.inr (Nat.le_refl _)) _).setCell (p := ⟨w.heap.size, 3, none⟩) (.inr (Nat.le_refl _)) _)⟩

set_option maxRecDepth 100000 in
set_option maxHeartbeats 2000000 in
theorem refUnpackResp_any (n : Int) (w : World) (hn : W64 n) :
    Calls Tryd.prog 19 #[.int .u64 n] w fun e w' => e = .returned (.tuple #[vAns n, .bool (vOk n)]) ∧ Frm.Turn [] w w' := by
  obtain ⟨n0, n1⟩ := hn
  by_cases hf : 4294967295 < n
  · have hr := vOk_far n hf
    have HX : Hid (vAns n = .agg #[.int .i64 0, .int .i64 0]) := Lib.hid (by unfold vAns; rw [hr]; rfl)
    have HO := Lib.hid hr
    have HT1 := Lib.hid ((Frm.Turn.refl [] w).alloc (.cells #[.int .i64 0, .int .i64 0] 25))
    clear hr
    go_enter Tryd.func19, Tryd.ntmps19
    go_wp2
    rw [HX.out, HO.out]
    refine bodyPost_ret (v := .tuple #[.agg #[.int .i64 0, .int .i64 0], .bool false]) (by simp [results, Tryd.results19, go_sem]) rfl ⟨rfl, ?_⟩
    first | exact HT1.out | exact ((HT1.out.setCell (p := ⟨w.heap.size, 0, none⟩) (.inr (Nat.le_refl _)) _).setCell (p := ⟨w.heap.size, 1, none⟩) (.inr (Nat.le_refl _)) _)
  · have HT := Lib.hid (((Frm.Turn.refl [] w).alloc (.cells #[.int .i64 0, .int .i64 0] 25)).alloc (.cells #[.int .i64 (n / 268435456), .int .i64 (n % 268435456)] 25))
    have HB0 := Lib.hid (heap_below w (.cells #[.int .i64 0, .int .i64 0] 25) (.cells #[.int .i64 (n / 268435456), .int .i64 (n % 268435456)] 25))
    have HB1 := Lib.hid (heap_last w (.cells #[.int .i64 0, .int .i64 0] 25) (.cells #[.int .i64 (n / 268435456), .int .i64 (n % 268435456)] 25))
    have HR := Lib.hid (refRightResp_any (n / 268435456) (n % 268435456) ((w.alloc (.cells #[.int .i64 0, .int .i64 0] 25)).alloc (.cells #[.int .i64 (n / 268435456), .int .i64 (n % 268435456)] 25)))
    have hle : n ≤ 4294967295 := by omega
    clear hf
    cases hr : vOk n
    · have HX : Hid (vAns n = .agg #[.int .i64 0, .int .i64 0]) := Lib.hid (by unfold vAns; rw [hr]; rfl)
      have hr' : respT.rightB (n / 268435456) (n % 268435456) 0 0 = false := hr
      rw [hr'] at HR
      clear hr hr'
      go_enter Tryd.func19, Tryd.ntmps19
      go_wp2_with (go_at_call 13; (with_reducible refine (HR.out).mono ?_); rintro e w1 ⟨rfl, hT⟩; obtain ⟨⟨e0, e1⟩, f0, f1⟩ := blk2 (hT.keep HB0.out (by simp)); obtain ⟨⟨g0, g1⟩, i0, i1⟩ := blk2 (hT.keep HB1.out (by simp)); have HT1 := Lib.hid ((HT.out).trans hT (by simp)); clear hT)
      rw [HX.out]
      exact bodyPost_ret (v := .tuple #[.agg #[.int .i64 0, .int .i64 0], .bool false]) (by simp [results, Tryd.results19, go_sem, e0, e1]) rfl ⟨rfl, ((HT1.out.setCell (p := ⟨w.heap.size, 0, none⟩) (.inr (Nat.le_refl _)) _).setCell (p := ⟨w.heap.size, 1, none⟩) (.inr (Nat.le_refl _)) _)⟩
    · have HX : Hid (vAns n = .agg #[.int .i64 (n / 268435456), .int .i64 (n % 268435456)]) := Lib.hid (by unfold vAns; rw [hr]; rfl)
      have hr' : respT.rightB (n / 268435456) (n % 268435456) 0 0 = true := hr
      rw [hr'] at HR
      clear hr hr'
      go_enter Tryd.func19, Tryd.ntmps19
      go_wp2_with (go_at_call 13; (with_reducible refine (HR.out).mono ?_); rintro e w1 ⟨rfl, hT⟩; obtain ⟨⟨e0, e1⟩, f0, f1⟩ := blk2 (hT.keep HB0.out (by simp)); obtain ⟨⟨g0, g1⟩, i0, i1⟩ := blk2 (hT.keep HB1.out (by simp)); have HT1 := Lib.hid ((HT.out).trans hT (by simp)); clear hT)
      rw [HX.out]
      exact bodyPost_ret (v := .tuple #[.agg #[.int .i64 (n / 268435456), .int .i64 (n % 268435456)], .bool true]) (by simp [results, Tryd.results19, go_sem, e0, e1]) rfl ⟨rfl, ((HT1.out.setCell (p := ⟨w.heap.size, 0, none⟩) (.inr (Nat.le_refl _)) _).setCell (p := ⟨w.heap.size, 1, none⟩) (.inr (Nat.le_refl _)) _)⟩
end Ops
end Go.Proofs.YtlfejjegegdbnaaDoor
