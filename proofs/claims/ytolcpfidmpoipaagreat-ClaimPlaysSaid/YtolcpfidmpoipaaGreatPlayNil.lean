/- Of no claim: what its calls tell. -/
import Derived.Test.YtolcpfidmpoipaaGreatClaimKin
set_option linter.unusedVariables false
set_option linter.unusedSimpArgs false
namespace Go.Proofs.YtolcpfidmpoipaaGreat
namespace Clm
open Go.RowKit Go.Maps Arn Pac
theorem step_nil (W : World) : Calls Tryz.prog 12 #[.pointer none] W fun e w' => e = .returned (.tuple #[]) ∧ Frm.Turn [] W w' := by
  go_enter Tryz.func12, Tryz.ntmps12
  go_wp2
  exact bodyPost_end (v := .tuple #[]) (by simp [results, Tryz.results12]) rfl ⟨rfl, Frm.Turn.refl [] W⟩
theorem done_nil (W : World) : Calls Tryz.prog 7 #[.pointer none] W fun e w' => e = .returned (.bool true) ∧ W = w' := by
  go_enter Tryz.func7, Tryz.ntmps7
  go_wp2
  go_ret
  exact ⟨rfl, rfl⟩
theorem err_nil (W : World) : Calls Tryz.prog 17 #[.pointer none] W fun e w' => e = .returned (.int .i64 0) ∧ W = w' := by
  go_enter Tryz.func17, Tryz.ntmps17
  go_wp2
  go_ret
  exact ⟨rfl, rfl⟩
theorem private_nil (W : World) : Calls Tryz.prog 18 #[.pointer none] W fun e w' => e = .returned (.slice none 0 0) ∧ W = w' := by
  go_enter Tryz.func18, Tryz.ntmps18
  go_wp2
  go_ret
  exact ⟨rfl, rfl⟩
theorem place_nil (W : World) : Calls Tryz.prog 8 #[.pointer none] W fun e w' => e = .returned (.tuple #[.agg #[.int .u64 0, .int .i64 0], .bool false]) ∧ Frm.Turn [] W w' := by
  go_enter Tryz.func8, Tryz.ntmps8
  go_wp2
  have hld := load_plc (World.alloc_heap_new W (.cells #[.int .u64 0, .int .i64 0] 45))
  exact bodyPost_ret (v := .tuple #[.agg #[.int .u64 0, .int .i64 0], .bool false]) (by simp [results, Tryz.results8, asAddr, hld, Act.put]) rfl ⟨rfl, (Frm.Turn.refl [] W).alloc _⟩
end Clm
end Go.Proofs.YtolcpfidmpoipaaGreat
