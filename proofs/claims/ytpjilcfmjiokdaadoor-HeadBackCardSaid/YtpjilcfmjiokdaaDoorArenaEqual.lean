/- Two slices of words alike? Two maps of such? slices.Equal, maps.EqualFunc. -/
import Derived.Test.YtpjilcfmjiokdaaDoorArenaCopy
set_option linter.unusedVariables false
set_option linter.unusedSimpArgs false
namespace Go.Proofs.YtpjilcfmjiokdaaDoor
namespace Arn
open Go.RowKit Hp Go.Maps

abbrev U64Row (w : World) (g c : Nat) (l : List Int) : Prop := w.ownsRow 0 22 1 (.slice (some ⟨g, 0, none⟩) l.length c) l.length (u64s l)
theorem urow_cell {w : World} {g c : Nat} {l : List Int} (h : U64Row w g c l) {j : Nat} (hj : j < l.length) : w.cell? ⟨g, j, none⟩ = some (.int .u64 (l.getD j 0)) := by
  rw [World.ownsRow.cellAt h j (by omega)]
  simp [u64s, hj, List.getD_eq_getElem?_getD]
theorem eq_of_getD {l1 l2 : List Int} (hn : l1.length = l2.length) (h : ∀ j, j < l1.length → l1.getD j 0 = l2.getD j 0) : l1 = l2 := by
  apply List.ext_getElem hn
  intro j h1 h2
  have := h j h1
  simpa [List.getD_eq_getElem?_getD, h1, h2] using this
def sameAs (L2 : List Blk) (x : Blk) : Bool := L2.any fun y => y.h == x.h && x.ws == y.ws
def sameSet (L1 L2 : List Blk) : Bool := decide (L1.length = L2.length) && L1.all (sameAs L2)
def EqRel (w : World) (m1 r n : Nat) (D1 : DataW Unit) (L1 L2 : List Blk) (wr : World) : Prop :=
  ∃ (left : Lit → Bool) (cnt : Nat), wr.ranges Tryd.prog 22 hdr m1 r n D1 left cnt ∧ Frm.Turn [] w wr ∧ ∀ x, x ∈ L1 → left (.int .u64 x.h) = false → sameAs L2 x = true

attribute [local go_sem ↓] Go.wp_at_zero Go.wp_at_succ
end Arn
end Go.Proofs.YtpjilcfmjiokdaaDoor
