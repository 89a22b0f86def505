/- A copy of a stock: slices.Clone, maps.Clone, Clone. -/
import Derived.Test.YtmjdcpcndggflaaDoorLeastOwn
import Derived.Test.YtmjdcpcndggflaaDoorLeastAppend
import Derived.Shelf.SlMaps.Clone
import Derived.Lib.SliceRun
import Derived.Deep.RegionHeld3
import Derived.Deep.DrawnRows
set_option linter.unusedVariables false
set_option linter.unusedSimpArgs false
namespace Go.Proofs.YtmjdcpcndggflaaDoor
namespace Lst
open Go.RowKit Hp

/-- A row behind a pointer in a block that is known. -/
theorem rw_mk {w : World} {b off g c : Nat} {l : List Nat} (hc : w.cell? ⟨b, off, none⟩ = some (.slice (some ⟨g, 0, none⟩) l.length c)) (hf : w.frozen? ⟨b, off, none⟩ = false)
    (ho : w.ownsRow 0 3 1 (.slice (some ⟨g, 0, none⟩) l.length c) l.length (ints l)) (hne : g ≠ b) (hfew : l.length ≤ 65536) : Rw w b off g c l := by
  rcases ho.2 with ⟨h, _⟩ | ⟨g', cap, cur, h, _, hg, h1, h2, h3, h4⟩
  · cases h
  · cases h
    exact ⟨hc, hf, ⟨cur, hg, by simpa using h3, by simpa using h4⟩, h1, h2, hne, hfew⟩

def CloneEnd (w : World) (S : St) (e : Ending) (w' : World) : Prop :=
  ∃ b' F', e = .returned (.pointer (some ⟨b', 0, none⟩)) ∧ StockAt w' b' F' S ∧ (∀ k, k ∈ F' → w.heap.size ≤ k) ∧ Frm.Turn [] w w'

attribute [local go_sem ↓] Go.wp_at_zero Go.wp_at_succ

/-- The new stock, once its parts lie there. -/
theorem clone_done {w W : World} {S : St} {m' : Nat} {vb : Value} {G' : List Nat} {D : DataW Unit} (hok : S.Ok) (hT : Frm.Turn [] w W) (hm : w.heap.size ≤ m') (hown : W.ownsMap Tryd.prog 3 (unitElem (H := Unit)) m' (Maps.size D) D)
    (hhas : ∀ k : Int, Maps.has D (.int .i64 k) = S.used k) (hsz : Maps.size D + S.back.length = S.high)
    (hv : (vb = .slice none 0 0 ∧ S.back = [] ∧ G' = []) ∨ ∃ g c, vb = .slice (some ⟨g, 0, none⟩) S.back.length c ∧ G' = [g] ∧ w.heap.size ≤ g ∧ W.ownsRow 0 3 1 vb S.back.length (ints S.back)) {e : Ending}
    (he : e = .returned (.pointer (some ⟨W.heap.size, 0, none⟩))) : CloneEnd w S e (W.alloc (.cells #[.int .i64 (S.most : Int), .int .i64 (S.high : Int), vb, .map (some m')] 103)) := by
  have hb := heap_alloc_new W (.cells #[.int .i64 (S.most : Int), .int .i64 (S.high : Int), vb, .map (some m')] 103)
  have hc := fun i => Frm.cell_row _ W.heap.size i _ _ _ hb
  have hf := fun i => Frm.frozen_row _ W.heap.size i _ _ hb
  have hTa : Frm.Turn [] W (W.alloc (.cells #[.int .i64 (S.most : Int), .int .i64 (S.high : Int), vb, .map (some m')] 103)) := (Frm.Turn.refl [] W).alloc _
  have hsW := hT.size
  have hfew : S.back.length ≤ 65536 := by have h1 := hok.few; have h2 := hok.high; have h3 := hok.most; omega
  refine ⟨W.heap.size, W.heap.size :: m' :: G', he, ⟨hok, (hc 0).trans rfl, (hc 1).trans rfl, hf, m', G', rfl, ?_, ?_, (hc 3).trans rfl, D, own_turn hown hTa (by simp), hhas, hsz⟩, fun k hk => ?_, hT.alloc _⟩
  · rcases hv with ⟨rfl, h1, rfl⟩ | ⟨g, c, rfl, rfl, hg, ho⟩
    · exact Or.inl ⟨h1, rfl, (hc 2).trans rfl, hf 2⟩
    · have hgW := (World.ownsRow.lt ho g rfl).2
      exact Or.inr ⟨g, c, rfl, rw_mk ((hc 2).trans rfl) (hf 2) (Frm.owns_turn ho hTa (by simp)) (by omega) hfew⟩
  · rcases hv with ⟨rfl, h1, rfl⟩ | ⟨g, c, rfl, rfl, hg, ho⟩
    · simp
    · have hgW := (World.ownsRow.lt ho g rfl).2
      simp; omega
  · simp at hk
    rcases hk with rfl | rfl | hk
    · omega
    · exact hm
    · rcases hv with ⟨rfl, h1, rfl⟩ | ⟨g, c, rfl, rfl, hg, ho⟩
      · simp at hk
      · simp at hk; omega

theorem clone_drew {w w' : World} {S : St} {e : Ending} (h : CloneEnd w S e w') : CloneEnd w S e w'.drew := by
  obtain ⟨b, F, he, hs, hf, ht⟩ := h
  exact ⟨b, F, he, hs.turn ((Frm.Turn.refl [] w').drew) (by simp), hf, ht.drew⟩
theorem ints_onec (l : List Nat) : ∀ u ∈ ints l, u.oneCell' = true := by
  intro u hu
  simp [ints] at hu
  obtain ⟨a, _, rfl⟩ := hu
  rfl
end Lst
end Go.Proofs.YtmjdcpcndggflaaDoor
