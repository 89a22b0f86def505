/- What 'allows' of a form answers: contracts of the call. -/
import Derived.Test.YtmjdcpcndggflaaDoorRows
import Derived.Test.YtmjdcpcndggflaaDoorOpsPlain
import Derived.Test.YtmjdcpcndggflaaDoorLeastFrame
import Derived.WalkKit
import Derived.ProofKit
import Derived.Lib.Hide
import Derived.LoopTactic
set_option linter.unusedVariables false
set_option linter.unusedSimpArgs false
namespace Go.Proofs.YtmjdcpcndggflaaDoor
namespace Ops
open Go.RowKit

theorem ok_yes {m p : Int} (h : okB m p = true) : 0 ≤ p ∧ p ≤ m := by unfold okB at h; simpa using h
theorem ok_no {m p : Int} (h : okB m p = false) : p < 0 ∨ (0 ≤ p ∧ m < p) := by unfold okB at h; simp at h; omega

/-- What stands ahead of a round of the loop. -/
def AllowAt (x0 x1 x2 y0 y1 y2 : Int) (i : Value) : Prop := i = .int .i64 0 ∨ (i = .int .i64 1 ∧ okB x0 y0 = true) ∨ (i = .int .i64 2 ∧ okB x0 y0 = true ∧ okB x1 y1 = true) ∨ (i = .int .i64 3 ∧ okB x0 y0 = true ∧ okB x1 y1 = true ∧ okB x2 y2 = true)

set_option maxHeartbeats 1000000 in
theorem allows_any (s : ByteArray) (x0 x1 x2 y0 y1 y2 : Int) (w : World) :
    Calls Tryd.prog 56 #[.agg #[.string s, .int .i64 x0, .int .i64 x1, .int .i64 x2], .agg #[.int .i64 y0, .int .i64 y1, .int .i64 y2]] w fun e w' => e = .returned (.bool (allowB x0 x1 x2 y0 y1 y2)) ∧ Frm.Turn [] w w' := by
  have i0 : ∀ w, (Instr.index 115 (.agg #[.int .i64 x0, .int .i64 x1, .int .i64 x2]) (.int .i64 0)).run Tryd.prog w = .ok (.int .i64 x0) w := fun _ => by kernel_rfl
  have i1 : ∀ w, (Instr.index 115 (.agg #[.int .i64 x0, .int .i64 x1, .int .i64 x2]) (.int .i64 1)).run Tryd.prog w = .ok (.int .i64 x1) w := fun _ => by kernel_rfl
  have i2 : ∀ w, (Instr.index 115 (.agg #[.int .i64 x0, .int .i64 x1, .int .i64 x2]) (.int .i64 2)).run Tryd.prog w = .ok (.int .i64 x2) w := fun _ => by kernel_rfl
  have HT := Lib.hid (fun o o' => ((Frm.Turn.refl [] w).alloc o).alloc o')
  go_enter Tryd.func56, Tryd.ntmps56
  go_wp2
  go_loop [9] (fun i => AllowAt x0 x1 x2 y0 y1 y2 i) (fun i => (4 - intOf i).toNat)
  case atStart => exact .inl rfl
  case round =>
    rcases hrel with rfl | ⟨rfl, h0⟩ | ⟨rfl, h0, h1⟩ | ⟨rfl, h0, h1, h2⟩
    · cases h0 : okB x0 y0
      · have h' := ok_no h0
        rcases h' with h' | ⟨h', h''⟩
        · go_wp2
          go_ret
          exact ⟨by unfold allowB; rw [h0]; rfl, HT.out _ _⟩
        · go_wp2
          go_ret
          exact ⟨by unfold allowB; rw [h0]; rfl, HT.out _ _⟩
      · obtain ⟨a, b⟩ := ok_yes h0
        go_wp2
        go_round
        case rel => exact .inr (.inl ⟨rfl, h0⟩)
        case measure => simp [intOf]
    · cases h1 : okB x1 y1
      · have h' := ok_no h1
        rcases h' with h' | ⟨h', h''⟩
        · go_wp2
          go_ret
          exact ⟨by unfold allowB; rw [h0, h1]; rfl, HT.out _ _⟩
        · go_wp2
          go_ret
          exact ⟨by unfold allowB; rw [h0, h1]; rfl, HT.out _ _⟩
      · obtain ⟨a, b⟩ := ok_yes h1
        go_wp2
        go_round
        case rel => exact .inr (.inr (.inl ⟨rfl, h0, h1⟩))
        case measure => simp [intOf]
    · cases h2 : okB x2 y2
      · have h' := ok_no h2
        rcases h' with h' | ⟨h', h''⟩
        · go_wp2
          go_ret
          exact ⟨by unfold allowB; rw [h0, h1, h2]; rfl, HT.out _ _⟩
        · go_wp2
          go_ret
          exact ⟨by unfold allowB; rw [h0, h1, h2]; rfl, HT.out _ _⟩
      · obtain ⟨a, b⟩ := ok_yes h2
        go_wp2
        go_round
        case rel => exact .inr (.inr (.inr ⟨rfl, h0, h1, h2⟩))
        case measure => simp [intOf]
    · go_wp2
      go_ret
      exact ⟨by unfold allowB; rw [h0, h1, h2]; rfl, HT.out _ _⟩
end Ops
end Go.Proofs.YtmjdcpcndggflaaDoor
