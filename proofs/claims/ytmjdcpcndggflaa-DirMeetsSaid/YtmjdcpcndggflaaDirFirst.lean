/- What must be answered ahead of everything else (the laws' first); paths as rows of cells. -/
import Derived.Test.YtmjdcpcndggflaaDirPath
import Derived.Laws.StructEq
set_option linter.unusedVariables false
set_option linter.unusedSimpArgs false
namespace Go.Proofs.Ytmjdcpcndggflaa
namespace Dr
open Go.RowKit

theorem turn_eq {w w' : World} (h : w = w') : Frm.Turn [] w w' := by subst h; exact Frm.Turn.refl _ _
/-- A path as cells. -/
theorem Path_row (n : Int) (w : World) (h0 : 0 ≤ n) (h1 : n ≤ 254) (K : Nat) (hK : Go.Lib.bitLen (n + 1).toNat = K) :
    Calls Try.prog 5 #[.int .i64 n] w fun e w' => ∃ g c, e = .returned (.slice (some ⟨g, 0, none⟩) K c) ∧ (∀ W, Frm.Turn [] w' W → ∀ i, i < K → W.cell? ⟨g, i, none⟩ = some (.int .i64 (nd (n + 1) i))) ∧ Frm.Turn [] w w' := by
  have hr := seg_range ⟨(n + 1).toNat, by omega⟩ (by show 1 ≤ (n + 1).toNat; omega)
  have hr' : 1 ≤ Go.Lib.bitLen (n + 1).toNat ∧ Go.Lib.bitLen (n + 1).toNat ≤ 8 := hr
  refine (Path_yes n w h0 h1).mono ?_
  rintro e w' ⟨v, rfl, hown, hT⟩
  rw [hK] at hown hr'
  have hown0 := hown
  rcases hown.2 with ⟨_, e2⟩ | ⟨g, c, cur, rfl, _⟩
  · omega
  · refine ⟨g, c, rfl, fun W hW i hi => ?_, hT⟩
    have h2 := hown0.cellAt i (by omega)
    rw [pathV_get hi] at h2
    exact hW.cell h2 (by simp)
theorem isThere_any (a : Int) (w : World) (h : (a != 0) = true) :
    Calls Try.prog 15 #[.int .u64 a] w fun e w' => e = .returned (.bool true) ∧ w = w' := by
  go_enter Try.func15, Try.ntmps15
  go_wp2
  go_ret
  exact ⟨rfl, rfl⟩
theorem Segment_5 (w : World) : Calls Try.prog 6 #[.int .i64 5] w fun e w' => e = .returned (.tuple #[.int .i64 2, .int .i64 2, .bool true]) ∧ w = w' := by
  have h := Segment_yes 5 w (by omega) (by omega)
  rw [show segN (5 + 1) = 2 from by decide +kernel, show (5 : Int) + 1 - p2 2 = 2 from by decide +kernel] at h
  exact h
theorem slots_2 (w : World) : Calls Try.prog 14 #[.int .i64 2] w fun e w' => e = .returned (.int .i64 4) ∧ w = w' := slotsOf_any 2 w (by omega) (by omega)
theorem counters_2 (w : World) : Calls Try.prog 16 #[.int .i64 2] w fun e w' => e = .returned (.int .i64 8) ∧ w = w' := countersOf_any 2 w (by omega) (by omega)
set_option maxRecDepth 100000 in
set_option maxHeartbeats 4000000 in
theorem Word_5 (w : World) : Calls Try.prog 7 #[.agg #[.int .u64 9, .int .i64 5], .int .i64 2] w fun e w' => e = .returned (.tuple #[.agg #[.int .u64 9, .int .i64 12], .bool true]) ∧ Frm.Turn [] w w' := by
  have HT : Hid (∀ o o', Frm.Turn [] w ((w.alloc o).alloc o')) := Lib.hid (fun o o' => ((Frm.Turn.refl [] w).alloc o).alloc o')
  go_enter Try.func7, Try.ntmps7
  go_wp2_with (first
    | (go_at_call 6; (with_reducible refine (Segment_5 _).mono ?_); rintro e w1 ⟨rfl, rfl⟩)
    | (go_at_call 15; refine (isThere_any 9 _ rfl).mono ?_; rintro e w1 ⟨rfl, rfl⟩))
  refine bodyPost_ret (v := .tuple #[.agg #[.int .u64 9, .int .i64 12], .bool true]) (by simp [results, Try.results7, go_sem]) rfl ⟨rfl, ?_⟩
  first | exact HT.out _ _ | exact ((HT.out _ _).setCell (p := ⟨w.heap.size + 1, 0, none⟩) (.inr (by show w.heap.size ≤ w.heap.size + 1; omega)) _).setCell (p := ⟨w.heap.size + 1, 1, none⟩) (.inr (by show w.heap.size ≤ w.heap.size + 1; omega)) _
set_option maxRecDepth 100000 in
set_option maxHeartbeats 4000000 in
theorem Counter_6 (w : World) : Calls Try.prog 8 #[.int .u64 9, .int .i64 2, .int .i64 6] w fun e w' => e = .returned (.tuple #[.agg #[.int .u64 9, .int .i64 26], .bool true]) ∧ Frm.Turn [] w w' := by
  have HT : Hid (∀ o, Frm.Turn [] w (w.alloc o)) := Lib.hid (fun o => (Frm.Turn.refl [] w).alloc o)
  go_enter Try.func8, Try.ntmps8
  go_wp2_with (first
    | (go_at_call 14; (with_reducible refine (slots_2 _).mono ?_); rintro e w1 ⟨rfl, rfl⟩)
    | (go_at_call 16; (with_reducible refine (counters_2 _).mono ?_); rintro e w1 ⟨rfl, rfl⟩)
    | (go_at_call 15; refine (isThere_any 9 _ rfl).mono ?_; rintro e w1 ⟨rfl, rfl⟩))
  refine bodyPost_ret (v := .tuple #[.agg #[.int .u64 9, .int .i64 26], .bool true]) (by simp [results, Try.results8, go_sem]) rfl ⟨rfl, ?_⟩
  first | exact HT.out _ | exact ((HT.out _).setCell (p := ⟨w.heap.size, 0, none⟩) (.inr (Nat.le_refl _)) _).setCell (p := ⟨w.heap.size, 1, none⟩) (.inr (Nat.le_refl _)) _
theorem Slot_6 (w : World) : Calls Try.prog 9 #[.int .i64 2, .int .i64 6] w fun e w' => e = .returned (.tuple #[.int .i64 5, .bool true]) ∧ w = w' := by
  go_enter Try.func9, Try.ntmps9
  go_wp2_with (first
    | (go_at_call 14; (with_reducible refine (slots_2 _).mono ?_); rintro e w1 ⟨rfl, rfl⟩)
    | (go_at_call 16; (with_reducible refine (counters_2 _).mono ?_); rintro e w1 ⟨rfl, rfl⟩))
  go_ret2
  exact ⟨rfl, rfl⟩
theorem Size_2 (w : World) : Calls Try.prog 10 #[.int .i64 2] w fun e w' => e = .returned (.int .i64 28) ∧ w = w' := by
  go_enter Try.func10, Try.ntmps10
  go_wp2_with (first
    | (go_at_call 14; (with_reducible refine (slots_2 _).mono ?_); rintro e w1 ⟨rfl, rfl⟩)
    | (go_at_call 16; (with_reducible refine (counters_2 _).mono ?_); rintro e w1 ⟨rfl, rfl⟩))
  go_ret
  exact ⟨rfl, rfl⟩
theorem Fixed_2 (w : World) : Calls Try.prog 11 #[.int .i64 2] w fun e w' => e = .returned (.agg #[.int .u64 0, .int .i64 3]) ∧ Frm.Turn [] w w' := by
  have HT : Hid (∀ o, Frm.Turn [] w (w.alloc o)) := Lib.hid (fun o => (Frm.Turn.refl [] w).alloc o)
  go_enter Try.func11, Try.ntmps11
  go_wp2
  refine bodyPost_ret (v := .agg #[.int .u64 0, .int .i64 3]) (by simp [results, Try.results11, go_sem]) rfl ⟨rfl, ?_⟩
  first | exact HT.out _ | exact ((HT.out _).setCell (p := ⟨w.heap.size, 0, none⟩) (.inr (Nat.le_refl _)) _).setCell (p := ⟨w.heap.size, 1, none⟩) (.inr (Nat.le_refl _)) _
theorem eq_addr (w : World) : (Op.equalIn 10000 30 (.agg #[.int .u64 9, .int .i64 12]) (.agg #[.int .u64 9, .int .i64 12])).run Try.prog w = .ok true w ∧ (Op.equalIn 10000 30 (.agg #[.int .u64 9, .int .i64 26]) (.agg #[.int .u64 9, .int .i64 26])).run Try.prog w = .ok true w ∧ (Op.equalIn 10000 30 (.agg #[.int .u64 0, .int .i64 3]) (.agg #[.int .u64 0, .int .i64 3])).run Try.prog w = .ok true w := by
  refine ⟨?_, ?_, ?_⟩ <;> kernel_rfl
theorem blk2 {W : World} {g : Nat} {x0 x1 : Value} {t : TypeId} (h : W.heap[g]? = some (.cells #[x0, x1] t (0, 0))) : (W.cell? ⟨g, 0, none⟩ = some x0 ∧ W.cell? ⟨g, 1, none⟩ = some x1) ∧ (W.frozen? ⟨g, 0, none⟩ = false ∧ W.frozen? ⟨g, 1, none⟩ = false) := by
  refine ⟨⟨?_, ?_⟩, Frm.frozen_row _ _ _ _ _ h, Frm.frozen_row _ _ _ _ _ h⟩ <;> (rw [Frm.cell_row _ _ _ _ _ _ h]; rfl)
set_option maxRecDepth 100000 in
set_option maxHeartbeats 8000000 in
theorem first_any (w : World) : Calls Try.prog 4 #[] w fun e w' => e = .returned (.bool true) ∧ Frm.Turn [] w w' := by
  have HP := Lib.hid (fun W => Path_row 5 W (by omega) (by omega) 3 (by decide +kernel))
  have q1 := fun W => (eq_addr W).1
  have q2 := fun W => (eq_addr W).2.1
  have q3 := fun W => (eq_addr W).2.2
  go_enter Try.func4, Try.ntmps4
  go_wp2_with (first
    | (go_at_call 6; (with_reducible refine (Segment_5 _).mono ?_); rintro e w1 ⟨rfl, rfl⟩)
    | (go_at_call 6; (with_reducible refine (Segment_no 255 _ (.inr (Int.le_refl _))).mono ?_); rintro e w1 ⟨rfl, rfl⟩)
    | (go_at_call 5; (with_reducible refine (HP.out _).mono ?_); rintro e w2 ⟨g, c, rfl, hc, hT⟩; have WT := Lib.hid hT; have HC := Lib.hid hc; clear hT hc)
    | (go_at_call 7; (with_reducible refine (Word_5 _).mono ?_); rintro e w3 ⟨rfl, hT⟩; have TP := Lib.hid (hT.alloc (.cells #[.int .u64 9, .int .i64 12] 30)); have HB1 := Lib.hid (World.alloc_heap_new w3 (.cells #[.int .u64 9, .int .i64 12] 30)); have WT := Lib.hid ((WT.out.trans hT (by simp)).alloc (.cells #[.int .u64 9, .int .i64 12] 30)); clear hT)
    | (go_at_call 8; (with_reducible refine (Counter_6 _).mono ?_); rintro e w4 ⟨rfl, hT⟩; have T1 := Lib.hid (hT.alloc (.cells #[.int .u64 9, .int .i64 26] 30)); have TP := Lib.hid ((TP.out.trans hT (by simp)).alloc (.cells #[.int .u64 9, .int .i64 26] 30)); have WT := Lib.hid ((WT.out.trans hT (by simp)).alloc (.cells #[.int .u64 9, .int .i64 26] 30)); have c0 := HC.out _ TP.out 0 (by decide); have c1 := HC.out _ TP.out 1 (by decide); have c2 := HC.out _ TP.out 2 (by decide); rw [show nd (5 + 1) 0 = 6 from by decide +kernel] at c0; rw [show nd (5 + 1) 1 = 3 from by decide +kernel] at c1; rw [show nd (5 + 1) 2 = 1 from by decide +kernel] at c2; obtain ⟨⟨e0, e1⟩, _⟩ := blk2 (T1.out.keep HB1.out (by simp)); clear hT)
    | (go_at_call 9; (with_reducible refine (Slot_6 _).mono ?_); rintro e w1 ⟨rfl, rfl⟩)
    | (go_at_call 10; (with_reducible refine (Size_2 _).mono ?_); rintro e w1 ⟨rfl, rfl⟩)
    | (go_at_call 11; (with_reducible refine (Fixed_2 _).mono ?_); rintro e w5 ⟨rfl, hT⟩; have WT := Lib.hid (WT.out.trans hT (by simp)); clear hT))
  go_ret
  exact ⟨rfl, WT.out⟩
end Dr
end Go.Proofs.Ytmjdcpcndggflaa
