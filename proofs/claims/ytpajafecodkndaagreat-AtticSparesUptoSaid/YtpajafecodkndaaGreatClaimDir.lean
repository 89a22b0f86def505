/- The calls of package dir at any slot: segments, sizes, fixed words, the words of slots. -/
import Derived.Test.YtpajafecodkndaaGreatDirCalls
import Derived.Test.YtpajafecodkndaaGreatClaimStep
set_option linter.unusedVariables false
set_option linter.unusedSimpArgs false
namespace Go.Proofs.YtpajafecodkndaaGreat
namespace Clm
open Go.RowKit Arn

theorem seg_nat_fin : ∀ s : Fin 255, Dr.segN ((s.val : Int) + 1) = (sgN s.val : Int) ∧ (s.val : Int) + 1 - Dr.p2 (sgN s.val : Int) = (ofN s.val : Int) := by decide +kernel
theorem p2_fin : ∀ g : Fin 8, Dr.p2 (g.val : Int) = ((2 ^ g.val : Nat) : Int) := by decide +kernel
theorem Segment_n (s : Nat) (w : World) (h : s < 255) :
    Calls Tryz.prog 148 #[.int .i64 s] w fun e w' => e = .returned (.tuple #[.int .i64 (sgN s), .int .i64 (ofN s), .bool true]) ∧ w = w' := by
  have h1 := Dr.Segment_yes s w (by omega) (by omega)
  obtain ⟨e1, e2⟩ := seg_nat_fin ⟨s, h⟩
  dsimp only at e1 e2
  rw [e1, e2] at h1
  exact h1
theorem slots_n (g : Nat) (w : World) (h : g < 8) : Calls Tryz.prog 168 #[.int .i64 g] w fun e w' => e = .returned (.int .i64 ((2 ^ g : Nat) : Int)) ∧ w = w' := by
  have h1 := Dr.slotsOf_any g w (by omega) (by omega)
  have e1 := p2_fin ⟨g, h⟩
  dsimp only at e1
  rw [e1] at h1
  exact h1
theorem counters_n (g : Nat) (w : World) (h : g < 8) : Calls Tryz.prog 191 #[.int .i64 g] w fun e w' => e = .returned (.int .i64 (2 * ((2 ^ g : Nat) : Int))) ∧ w = w' := by
  have h1 := Dr.countersOf_any g w (by omega) (by omega)
  have e1 := p2_fin ⟨g, h⟩
  dsimp only at e1
  rw [e1] at h1
  exact h1
theorem pow_le {g : Nat} (h : g < 8) : 1 ≤ 2 ^ g ∧ 2 ^ g ≤ 128 :=
  ⟨Nat.one_le_two_pow, by have : 2 ^ g ≤ 2 ^ 7 := Nat.pow_le_pow_right (by omega) (by omega); omega⟩
set_option maxRecDepth 100000 in
theorem Fixed_n (g : Nat) (w : World) (h : g < 8) : Calls Tryz.prog 164 #[.int .i64 g] w fun e w' => e = .returned (.agg #[.int .u64 0, .int .i64 (1 + (g : Int))]) ∧ Frm.Turn [] w w' := by
  have h : g = 0 ∨ g = 1 ∨ g = 2 ∨ g = 3 ∨ g = 4 ∨ g = 5 ∨ g = 6 ∨ g = 7 := by omega
  have HT : Hid (∀ o, Frm.Turn [] w (w.alloc o)) := Lib.hid (fun o => (Frm.Turn.refl [] w).alloc o)
  rcases h with rfl | rfl | rfl | rfl | rfl | rfl | rfl | rfl
  all_goals
    go_enter Tryz.func164, Tryz.ntmps164
    go_wp2
  · refine bodyPost_ret (v := .agg #[.int .u64 0, .int .i64 1]) (by simp [results, Tryz.results164, go_sem]) rfl ⟨rfl, ?_⟩
    first | exact HT.out _ | exact ((HT.out _).setCell (p := ⟨w.heap.size, 0, none⟩) (.inr (Nat.le_refl _)) _).setCell (p := ⟨w.heap.size, 1, none⟩) (.inr (Nat.le_refl _)) _
  · refine bodyPost_ret (v := .agg #[.int .u64 0, .int .i64 2]) (by simp [results, Tryz.results164, go_sem]) rfl ⟨rfl, ?_⟩
    first | exact HT.out _ | exact ((HT.out _).setCell (p := ⟨w.heap.size, 0, none⟩) (.inr (Nat.le_refl _)) _).setCell (p := ⟨w.heap.size, 1, none⟩) (.inr (Nat.le_refl _)) _
  · refine bodyPost_ret (v := .agg #[.int .u64 0, .int .i64 3]) (by simp [results, Tryz.results164, go_sem]) rfl ⟨rfl, ?_⟩
    first | exact HT.out _ | exact ((HT.out _).setCell (p := ⟨w.heap.size, 0, none⟩) (.inr (Nat.le_refl _)) _).setCell (p := ⟨w.heap.size, 1, none⟩) (.inr (Nat.le_refl _)) _
  · refine bodyPost_ret (v := .agg #[.int .u64 0, .int .i64 4]) (by simp [results, Tryz.results164, go_sem]) rfl ⟨rfl, ?_⟩
    first | exact HT.out _ | exact ((HT.out _).setCell (p := ⟨w.heap.size, 0, none⟩) (.inr (Nat.le_refl _)) _).setCell (p := ⟨w.heap.size, 1, none⟩) (.inr (Nat.le_refl _)) _
  · refine bodyPost_ret (v := .agg #[.int .u64 0, .int .i64 5]) (by simp [results, Tryz.results164, go_sem]) rfl ⟨rfl, ?_⟩
    first | exact HT.out _ | exact ((HT.out _).setCell (p := ⟨w.heap.size, 0, none⟩) (.inr (Nat.le_refl _)) _).setCell (p := ⟨w.heap.size, 1, none⟩) (.inr (Nat.le_refl _)) _
  · refine bodyPost_ret (v := .agg #[.int .u64 0, .int .i64 6]) (by simp [results, Tryz.results164, go_sem]) rfl ⟨rfl, ?_⟩
    first | exact HT.out _ | exact ((HT.out _).setCell (p := ⟨w.heap.size, 0, none⟩) (.inr (Nat.le_refl _)) _).setCell (p := ⟨w.heap.size, 1, none⟩) (.inr (Nat.le_refl _)) _
  · refine bodyPost_ret (v := .agg #[.int .u64 0, .int .i64 7]) (by simp [results, Tryz.results164, go_sem]) rfl ⟨rfl, ?_⟩
    first | exact HT.out _ | exact ((HT.out _).setCell (p := ⟨w.heap.size, 0, none⟩) (.inr (Nat.le_refl _)) _).setCell (p := ⟨w.heap.size, 1, none⟩) (.inr (Nat.le_refl _)) _
  · refine bodyPost_ret (v := .agg #[.int .u64 0, .int .i64 8]) (by simp [results, Tryz.results164, go_sem]) rfl ⟨rfl, ?_⟩
    first | exact HT.out _ | exact ((HT.out _).setCell (p := ⟨w.heap.size, 0, none⟩) (.inr (Nat.le_refl _)) _).setCell (p := ⟨w.heap.size, 1, none⟩) (.inr (Nat.le_refl _)) _
theorem isThere_n (a : Int) (w : World) (h : (a != 0) = true) :
    Calls Tryz.prog 149 #[.int .u64 a] w fun e w' => e = .returned (.bool true) ∧ w = w' := by
  go_enter Tryz.func149, Tryz.ntmps149
  go_wp2
  go_ret
  exact ⟨rfl, rfl⟩
set_option maxRecDepth 100000 in
set_option maxHeartbeats 4000000 in
/-- The word Own of a slot. -/
theorem Word_n (seg : Int) (s : Nat) (w : World) (h : s < 255) (hz : (seg != 0) = true) :
    Calls Tryz.prog 127 #[.agg #[.int .u64 seg, .int .i64 s], .int .i64 0] w fun e w' => e = .returned (.tuple #[.agg #[.int .u64 seg, .int .i64 (5 * (ofN s : Int))], .bool true]) ∧ Frm.Turn [] w w' := by
  have H1 := Lib.hid (fun W => Segment_n s W h)
  have H2 := Lib.hid (fun W => isThere_n seg W hz)
  obtain ⟨q1, q2, q3, q4, q5⟩ := sg_facts h
  have b0 : (0 : Int) ≤ (ofN s : Int) := by omega
  have b1 : (ofN s : Int) ≤ 127 := by omega
  have HT : Hid (∀ o o', Frm.Turn [] w ((w.alloc o).alloc o')) := Lib.hid (fun o o' => ((Frm.Turn.refl [] w).alloc o).alloc o')
  rw [show (5 : Int) * (ofN s : Int) = (ofN s : Int) * 5 by omega]
  generalize (ofN s : Int) = x at H1 b0 b1 ⊢
  generalize (sgN s : Int) = g at H1
  generalize (s : Int) = y at H1 ⊢
  clear q1 q2 q3 q4 q5 h hz
  go_enter Tryz.func127, Tryz.ntmps127
  go_wp2_with (first
    | (go_at_call 148; (with_reducible refine (H1.out _).mono ?_); rintro e w1 ⟨rfl, rfl⟩)
    | (go_at_call 149; (with_reducible refine (H2.out _).mono ?_); rintro e w1 ⟨rfl, rfl⟩))
  refine bodyPost_ret (v := .tuple #[.agg #[.int .u64 seg, .int .i64 (x * 5)], .bool true]) (by simp [results, Tryz.results127, go_sem]) rfl ⟨rfl, ?_⟩
  first | exact HT.out _ _ | exact ((HT.out _ _).setCell (p := ⟨w.heap.size + 1, 0, none⟩) (.inr (by show w.heap.size ≤ w.heap.size + 1; omega)) _).setCell (p := ⟨w.heap.size + 1, 1, none⟩) (.inr (by show w.heap.size ≤ w.heap.size + 1; omega)) _
end Clm
end Go.Proofs.YtpajafecodkndaaGreat
