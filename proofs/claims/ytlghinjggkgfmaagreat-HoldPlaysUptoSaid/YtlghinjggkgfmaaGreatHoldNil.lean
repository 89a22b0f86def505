/- Of no grip, no fetch, no clear: what their calls tell. -/
import Derived.Test.YtlghinjggkgfmaaGreatHoldKit
set_option linter.unusedVariables false
set_option linter.unusedSimpArgs false
namespace Go.Proofs.YtlghinjggkgfmaaGreat
namespace Hld
open Go.RowKit Go.Maps Arn Pac
theorem gstep_nil (W : World) : Calls Tryz.prog 45 #[.pointer none] W fun e w' => e = .returned (.tuple #[]) ∧ Frm.Turn [] W w' := by
  go_enter Tryz.func45, Tryz.ntmps45
  go_wp2
  exact bodyPost_end (v := .tuple #[]) (by simp [results, Tryz.results45]) rfl ⟨rfl, Frm.Turn.refl [] W⟩
theorem gdone_nil (W : World) : Calls Tryz.prog 49 #[.pointer none] W fun e w' => e = .returned (.bool true) ∧ Frm.Turn [] W w' := by
  go_enter Tryz.func49, Tryz.ntmps49
  go_wp2
  go_ret
  exact ⟨rfl, Frm.Turn.refl [] W⟩
theorem fstep_nil (W : World) : Calls Tryz.prog 50 #[.pointer none] W fun e w' => e = .returned (.tuple #[]) ∧ Frm.Turn [] W w' := by
  go_enter Tryz.func50, Tryz.ntmps50
  go_wp2
  exact bodyPost_end (v := .tuple #[]) (by simp [results, Tryz.results50]) rfl ⟨rfl, Frm.Turn.refl [] W⟩
theorem fdone_nil (W : World) : Calls Tryz.prog 55 #[.pointer none] W fun e w' => e = .returned (.bool true) ∧ Frm.Turn [] W w' := by
  go_enter Tryz.func55, Tryz.ntmps55
  go_wp2
  go_ret
  exact ⟨rfl, Frm.Turn.refl [] W⟩
theorem cstep_nil (W : World) : Calls Tryz.prog 56 #[.pointer none] W fun e w' => e = .returned (.tuple #[]) ∧ Frm.Turn [] W w' := by
  go_enter Tryz.func56, Tryz.ntmps56
  go_wp2
  exact bodyPost_end (v := .tuple #[]) (by simp [results, Tryz.results56]) rfl ⟨rfl, Frm.Turn.refl [] W⟩
theorem cdone_nil (W : World) : Calls Tryz.prog 58 #[.pointer none] W fun e w' => e = .returned (.bool true) ∧ Frm.Turn [] W w' := by
  go_enter Tryz.func58, Tryz.ntmps58
  go_wp2
  go_ret
  exact ⟨rfl, Frm.Turn.refl [] W⟩
theorem groot_nil (W : World) : Calls Tryz.prog 47 #[.pointer none] W fun e w' => e = .returned (.int .u64 0) ∧ Frm.Turn [] W w' := by
  go_enter Tryz.func47, Tryz.ntmps47
  go_wp2
  go_ret
  exact ⟨rfl, Frm.Turn.refl [] W⟩
theorem gout_nil (W : World) : Calls Tryz.prog 48 #[.pointer none] W fun e w' => e = .returned (.int .i64 0) ∧ Frm.Turn [] W w' := by
  go_enter Tryz.func48, Tryz.ntmps48
  go_wp2
  go_ret
  exact ⟨rfl, Frm.Turn.refl [] W⟩
theorem fout_nil (W : World) : Calls Tryz.prog 54 #[.pointer none] W fun e w' => e = .returned (.int .i64 0) ∧ Frm.Turn [] W w' := by
  go_enter Tryz.func54, Tryz.ntmps54
  go_wp2
  go_ret
  exact ⟨rfl, Frm.Turn.refl [] W⟩
theorem fwords_nil (W : World) : Calls Tryz.prog 53 #[.pointer none] W fun e w' => e = .returned (.slice none 0 0) ∧ Frm.Turn [] W w' := by
  go_enter Tryz.func53, Tryz.ntmps53
  go_wp2
  go_ret
  exact ⟨rfl, Frm.Turn.refl [] W⟩
end Hld
end Go.Proofs.YtlghinjggkgfmaaGreat
