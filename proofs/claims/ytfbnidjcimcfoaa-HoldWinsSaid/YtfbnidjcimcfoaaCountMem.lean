/- A count in memory; its calls that touch no arena. -/
import Derived.Test.YtfbnidjcimcfoaaClaimKin
import Derived.Test.YtfbnidjcimcfoaaDirPath
import Derived.Test.YtfbnidjcimcfoaaCountPlain
import Derived.BigQuiet
import Derived.Deep.RegionWith
set_option linter.unusedVariables false
set_option linter.unusedSimpArgs false
namespace Go.Proofs.Ytfbnidjcimcfoaa
namespace Cnt
open Go.RowKit Go.Maps Arn Pac Clm

/-- A path's row. -/
def PathAt (W : World) (q s : Nat) : Prop := ∀ k, k < kN s → W.cell? ⟨q, k, none⟩ = some (.int .i64 (ndN s k))
theorem PathAt.turn {W W' : World} {q s : Nat} {F : List Nat} (h : PathAt W q s) (ht : Frm.Turn F W W') (hn : q ∉ F) : PathAt W' q s := fun k hk => ht.cell (h k hk) hn
theorem cell_in {w : World} {a : Addr} {v : Value} (h : w.cell? a = some v) : a.block < w.heap.size := by
  unfold World.cell? at h
  cases hb : w.heap[a.block]? with
  | none => rw [hb] at h; cases h
  | some o => exact (Array.getElem?_eq_some_iff.1 hb).1
theorem PathAt.lt {W : World} {q s : Nat} (h : PathAt W q s) : q < W.heap.size := cell_in (h 0 (by unfold kN; omega))
theorem len_fin : ∀ s : Fin 255, Go.Lib.bitLen (s.val + 1) = kN s.val := by decide +kernel
variable {w W W' : World} {r b q c n : Nat} {M : Mem} {A : Ar} {C : Ct} {g : Value}
end Cnt
end Go.Proofs.Ytfbnidjcimcfoaa
