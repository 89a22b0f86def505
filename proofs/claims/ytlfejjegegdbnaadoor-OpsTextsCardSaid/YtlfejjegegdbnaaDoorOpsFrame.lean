/- From what the rows of layer 5 list to what the walks know; operations and responses as arguments. -/
import Derived.Test.YtlfejjegegdbnaaDoorOpsKnown
import Derived.Test.YtlfejjegegdbnaaDoorCards
import Derived.Test.YtlfejjegegdbnaaDoorTie
import Derived.ProofKit
import Derived.LaidMore
import Derived.OpenShut
import Derived.Stop.Joined
import Derived.Stop.LaidErr
import Derived.Deep.DeepHandedRow
import Derived.Deep.DeepWitnessRowRef
import Derived.Lib.LaidTab
import Derived.Lib.SmallJoins
import Derived.SevenTiedAt
set_option linter.unusedVariables false
set_option linter.unusedSimpArgs false
namespace Go.Proofs.YtlfejjegegdbnaaDoor
namespace Ops
open Go.ChangeShapes Go.WideShapes Go.ChangeAt Go.RowKit Go.Joins Go.Lib

theorem own : ownKnob Tryd.prog.godebug = none := by kernel_rfl
theorem g_ops : Tryd.prog.globalNamed "roundelay/ops.operations" = some 0 := by kernel_rfl
theorem g_resps : Tryd.prog.globalNamed "roundelay/ops.responses" = some 1 := by kernel_rfl
theorem g_esyn : Tryd.prog.globalNamed "strconv.ErrSyntax" = some 3 := by kernel_rfl
theorem g_eran : Tryd.prog.globalNamed "strconv.ErrRange" = some 4 := by kernel_rfl
theorem star : "*" ++ "errors.errorString" = "*errors.errorString" := by decide

/-- The list of the rows. -/
def laidL : List (String × DataW Unit) := [("math/bits.deBruijn32tab", Rows.laid_math_bits_deBruijn32tab), ("math/bits.deBruijn64tab", Rows.laid_math_bits_deBruijn64tab), ("internal/strconv.uint64pow10", Rows.laid_internal_strconv_uint64pow10), ("strconv.ErrRange", Rows.laid_strconv_ErrRange), ("strconv.ErrSyntax", Rows.laid_strconv_ErrSyntax), ("roundelay/ops.operations", Rows.laid_roundelay_ops_operations), ("roundelay/ops.responses", Rows.laid_roundelay_ops_responses)]
theorem pow_form : (Rows.laid_internal_strconv_uint64pow10 : DataW Unit) = tabData .u64 pow10Tab := by kernel_rfl
theorem ops_form : (Rows.laid_roundelay_ops_operations : DataW Unit) = tabForm opT := by kernel_rfl
theorem resps_form : (Rows.laid_roundelay_ops_responses : DataW Unit) = tabForm respT := by kernel_rfl

/-- What reads as an error that is one lies as an interface value. -/
theorem iface_cells {H : Type} {enc : TypeId × Value → H} {P : Program} {w : World} {base : Nat} {spare : Nat → Bool} {held : Bool} {fuel : Nat} {t : TypeId} {ms : Array (String × TypeId)} {cs : List Value} {nm : String} {d : DataW H} {p : List MemPlace}
    (ht : P.underlying t = some (.interface ms)) (h : DataW.trod enc P w base spare held fuel t cs = some (.iface nm d, p)) : ∃ tp pv, cs = [.iface tp pv] := by
  cases fuel with
  | zero => simp [DataW.trod] at h
  | succ n =>
    unfold DataW.trod at h
    rw [ht] at h
    split at h <;> simp_all
theorem of_laid {W : World} (h : laidMetH Tryd.prog laidL W) (hs : W.ShapedOpen Tryd.prog) : Kn W := by
  rw [MakeChecks.laidMetH_plain _ _ _ (by kernel_rfl)] at h
  have h2 := h.tail.tail
  have h3 := h2.tail
  have h4 := h3.tail
  have h5 := h4.tail
  have h6 := h5.tail
  rw [pow_form] at h2
  have tp := tabIs_of_head g_pow (show (Tryd.prog.globals[5]?).map (·.type) = some 104 by kernel_rfl) Tryd.underlying104 Tryd.underlying27 (by kernel_rfl) (by kernel_rfl) h2
  refine ⟨?_, ?_, tp, ?_, ?_, Tryd.laysM145.s1_3 W hs⟩
  · obtain ⟨ps, ⟨g', t', cs, fuel, p, q, hg', ht', hvar, hd, _, _⟩, _⟩ := h5
    obtain rfl := Option.some.inj (g_ops.symm.trans hg')
    obtain rfl := Option.some.inj ((show (Tryd.prog.globals[0]?).map (·.type) = some 52 by kernel_rfl).symm.trans ht')
    rw [ops_form] at hd
    exact cells_of_var g_ops hvar (tab_cells Tryd.underlying52 (by kernel_rfl) rfl Tryd.underlying51 ⟨rfl, rfl⟩ ⟨rfl, rfl⟩ Tryd.underlying9 Tryd.underlying49 Tryd.underlying3 (by kernel_rfl) (by kernel_rfl) (by kernel_rfl) hd)
  · obtain ⟨ps, ⟨g', t', cs, fuel, p, q, hg', ht', hvar, hd, _, _⟩, _⟩ := h6
    obtain rfl := Option.some.inj (g_resps.symm.trans hg')
    obtain rfl := Option.some.inj ((show (Tryd.prog.globals[1]?).map (·.type) = some 55 by kernel_rfl).symm.trans ht')
    rw [resps_form] at hd
    exact cells_of_var g_resps hvar (tab_cells Tryd.underlying55 (by kernel_rfl) rfl Tryd.underlying51 ⟨rfl, rfl⟩ ⟨rfl, rfl⟩ Tryd.underlying9 Tryd.underlying49 Tryd.underlying3 (by kernel_rfl) (by kernel_rfl) (by kernel_rfl) hd)
  · obtain ⟨ps, ⟨g', t', cs, fuel, p, q, hg', ht', hvar, hd, _, _⟩, _⟩ := h4
    obtain rfl := Option.some.inj (g_esyn.symm.trans hg')
    obtain rfl := Option.some.inj ((show (Tryd.prog.globals[3]?).map (·.type) = some 69 by kernel_rfl).symm.trans ht')
    obtain ⟨tp, pv, e⟩ := iface_cells Tryd.underlying69 hd
    exact ⟨tp, pv, by rw [World.var?_cell g_esyn hvar]; have := congrArg (·[0]?) e; simpa using this⟩
  · obtain ⟨ps, ⟨g', t', cs, fuel, p, q, hg', ht', hvar, hd, _, _⟩, _⟩ := h3
    obtain rfl := Option.some.inj (g_eran.symm.trans hg')
    obtain rfl := Option.some.inj ((show (Tryd.prog.globals[4]?).map (·.type) = some 69 by kernel_rfl).symm.trans ht')
    obtain ⟨tp, pv, e⟩ := iface_cells Tryd.underlying69 hd
    exact ⟨tp, pv, by rw [World.var?_cell g_eran hvar]; have := congrArg (·[0]?) e; simpa using this⟩
end Ops
end Go.Proofs.YtlfejjegegdbnaaDoor
