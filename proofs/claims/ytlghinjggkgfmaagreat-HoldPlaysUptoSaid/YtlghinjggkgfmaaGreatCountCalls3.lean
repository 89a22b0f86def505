/- A count made, stepped, asked. -/
/- A count made, stepped, asked. -/
/- Enter and Exit. -/
import Derived.Test.YtlghinjggkgfmaaGreatCountMem
set_option linter.unusedVariables false
set_option linter.unusedSimpArgs false
namespace Go.Proofs.YtlghinjggkgfmaaGreat
namespace Cnt
open Go.RowKit Go.Maps Arn Pac Clm

variable {w W W' : World} {r b q c n : Nat} {M : Mem} {A : Ar} {C : Ct} {g : Value}
theorem path_aft {A' : Ar} {m : Nat} {W1 W2 : World} {s : Nat} (hq : q ∉ M.foot b) (hc : PathAt W q s) (h1 : Frm.Turn [] W W1) (h2 : After w b M A' m W1 W2) : PathAt W2 q s := by
  obtain ⟨M', hs, hT, hf⟩ := h2
  exact (hc.turn h1 (by simp)).turn hT hq
/-- An address that was just laid. -/
def AdrAt (W0 : World) (x : Nat) (seg ad : Int) (W : World) : Prop := W.heap[x]? = some (.cells #[.int .u64 seg, .int .i64 ad] 80 (0, 0)) ∧ W0.heap.size ≤ x ∧ Frm.Turn [] W0 W
theorem AdrAt.told {W0 W : World} {x : Nat} {seg ad : Int} (h : AdrAt W0 x seg ad W) : (loadVar 80 ⟨x, 0, none⟩).run Tryz.prog W = .ok (.agg #[.int .u64 seg, .int .i64 ad]) W := load_adr h.1
end Cnt
end Go.Proofs.YtlghinjggkgfmaaGreat

set_option linter.unusedVariables false
set_option linter.unusedSimpArgs false
namespace Go.Proofs.YtlghinjggkgfmaaGreat
namespace Cnt
open Go.RowKit Go.Maps Arn Pac Clm

variable {w W W' : World} {r b q c n : Nat} {M : Mem} {A : Ar} {C : Ct} {g : Value}
end Cnt
end Go.Proofs.YtlghinjggkgfmaaGreat

set_option linter.unusedVariables false
set_option linter.unusedSimpArgs false
namespace Go.Proofs.YtlghinjggkgfmaaGreat
namespace Cnt
open Go.RowKit Go.Maps Arn Pac Clm

variable {w W W' : World} {r b q c n : Nat} {M : Mem} {A : Ar} {C : Ct} {g : Value}
end Cnt
end Go.Proofs.YtlghinjggkgfmaaGreat
