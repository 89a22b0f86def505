/- A table's calls: get, put, drop, swap, floor, acquire, release; the responses done and none. -/
import Derived.Test.YtmodanjblbaedaaDoorModelMem
import Derived.Shelf.SlMaps.Clone
set_option linter.unusedVariables false
set_option linter.unusedSimpArgs false
namespace Go.Proofs.YtmodanjblbaedaaDoor
namespace Mdl
open Go.RowKit Go.Maps

abbrev rv (r : Rs) : Value := .agg #[.int .i64 r.1, .int .i64 r.2]
theorem done_any (n : Int) (w : World) : Calls Tryd.prog 44 #[.int .i64 n] w fun e w' => e = .returned (.agg #[.int .i64 0, .int .i64 n]) ∧ Frm.Turn [] w w' := by
  go_enter Tryd.func44, Tryd.ntmps44
  go_wp2
  exact bodyPost_ret (v := rv (0, n)) (by simp [results, Tryd.results44, go_sem, rv]) rfl ⟨rfl, (Frm.Turn.refl [] w).alloc _⟩
theorem none_any (w : World) : Calls Tryd.prog 29 #[] w fun e w' => e = .returned (.agg #[.int .i64 1, .int .i64 0]) ∧ Frm.Turn [] w w' := by
  go_enter Tryd.func29, Tryd.ntmps29
  go_wp2
  exact bodyPost_ret (v := rv (1, 0)) (by simp [results, Tryd.results29, go_sem, rv]) rfl ⟨rfl, (Frm.Turn.refl [] w).alloc _⟩

theorem blk2 {W : World} {b : Nat} {x y : Value} {t : TypeId} (h : W.heap[b]? = some (.cells #[x, y] t (0, 0))) :
    (W.cell? ⟨b, 0, none⟩ = some x ∧ W.cell? ⟨b, 1, none⟩ = some y) ∧ W.frozen? ⟨b, 0, none⟩ = false ∧ W.frozen? ⟨b, 1, none⟩ = false :=
  ⟨⟨(Frm.cell_row W b 0 _ _ _ h).trans rfl, (Frm.cell_row W b 1 _ _ _ h).trans rfl⟩, Frm.frozen_row W b 0 _ _ h, Frm.frozen_row W b 1 _ _ h⟩
/-- The block of a result that is not yet told. -/
def res0 : Obj := .cells #[.int .i64 0, .int .i64 0] 40
theorem res_new (w : World) : (w.alloc res0).heap[w.heap.size]? = some (.cells #[.int .i64 0, .int .i64 0] 40 (0, 0)) := heap_alloc_new w _
theorem told {w w1 : World} {b : Nat} (hT : Frm.Turn [] w w1) (hb : w.heap.size ≤ b) (x y : Value) : Frm.Turn [] w ((w1.setCell ⟨b, 0, none⟩ x).setCell ⟨b, 1, none⟩ y) :=
  (hT.setCell (Or.inr hb) _).setCell (Or.inr hb) _

theorem told_blk {W : World} {b : Nat} {p q : Value} {t : TypeId} (h : W.heap[b]? = some (.cells #[p, q] t (0, 0))) (x y : Value) : ((W.setCell ⟨b, 0, none⟩ x).setCell ⟨b, 1, none⟩ y).heap[b]? = some (.cells #[x, y] t (0, 0)) :=
  Frm.heap_set _ b 1 _ _ _ y (Frm.heap_set W b 0 _ _ _ x h)

set_option maxHeartbeats 1000000 in
theorem get_any {w : World} {p : Option Nat} {f : Tb} (h : TAt w p f) {k : Int} (hk : I64 k) :
    Calls Tryd.prog 45 #[.map p, .int .i64 k] w fun e w' => e = .returned (rv (get f k)) ∧ Frm.Turn [] w w' := by
  have H := Lib.hid (fun W (hT : Frm.Turn [] w W) => h.step hT)
  have HK := Lib.hid hk
  have HT := Lib.hid (fun o => (Frm.Turn.refl [] w).alloc o)
  have HB := Lib.hid (res_new w)
  clear h hk
  cases e : f k with
  | none =>
    have HE := Lib.hid e
    have HR : Hid (get f k = (1, 0)) := Lib.hid (by unfold get; rw [e])
    clear e
    go_enter Tryd.func45, Tryd.ntmps45
    go_wp2_with (first
      | (at_lookup; refine wpList_look _ rfl _ _ rfl (H.out _ (HT.out _)) HK.out 0 false (by rw [HE.out]; rfl) (by rw [HE.out]; rfl) rfl rfl ?_)
      | (go_at_call 29; (with_reducible refine (none_any _).mono ?_); rintro e w1 ⟨rfl, hT⟩; have hk := hT.keep HB.out (by simp); obtain ⟨⟨c0, c1⟩, f0, f1⟩ := blk2 hk; have HB1 := Lib.hid hk; clear hk; have HT1 := Lib.hid ((HT.out _).trans hT (by simp)); clear hT))
    have r := blk2 (told_blk HB1.out (.int .i64 1) (.int .i64 0))
    exact bodyPost_ret (v := rv (1, 0)) (by simp [results, Tryd.results45, go_sem, r.1.1, r.1.2]) rfl ⟨by rw [HR.out], told HT1.out (Nat.le_refl _) _ _⟩
  | some v =>
    have HE := Lib.hid e
    have HR : Hid (get f k = (0, v)) := Lib.hid (by unfold get; rw [e])
    clear e
    go_enter Tryd.func45, Tryd.ntmps45
    go_wp2_with (first
      | (at_lookup; refine wpList_look _ rfl _ _ rfl (H.out _ (HT.out _)) HK.out v true (by rw [HE.out]; rfl) (by rw [HE.out]; rfl) rfl rfl ?_)
      | (go_at_call 44; (with_reducible refine (done_any _ _).mono ?_); rintro e w1 ⟨rfl, hT⟩; have hk := hT.keep HB.out (by simp); obtain ⟨⟨c0, c1⟩, f0, f1⟩ := blk2 hk; have HB1 := Lib.hid hk; clear hk; have HT1 := Lib.hid ((HT.out _).trans hT (by simp)); clear hT))
    have r := blk2 (told_blk HB1.out (.int .i64 0) (.int .i64 v))
    exact bodyPost_ret (v := rv (0, v)) (by simp [results, Tryd.results45, go_sem, r.1.1, r.1.2]) rfl ⟨by rw [HR.out], told HT1.out (Nat.le_refl _) _ _⟩
end Mdl
end Go.Proofs.YtmodanjblbaedaaDoor
