/- As many steps as accesses: the walk. -/
import Derived.Test.YtkjcccjkfjebaaaPaceLaid
import Derived.Test.YtkjcccjkfjebaaaPaceFirst
set_option linter.unusedVariables false
set_option linter.unusedSimpArgs false
namespace Go.Proofs.Ytkjcccjkfjebaaa
namespace Pac
open Go.RowKit Go.Maps Arn

/-- The program's box. -/
structure Prog4 (W : World) (g : Nat) (kind : Int) (ax ah : Option Addr) (nx cx nh ch : Nat) (pv : Value) : Prop where
  body : W.heap[g]? = some (.cells #[.int .i64 kind, .slice ax nx cx, .slice ah nh ch, pv] 86 (0, 0))
theorem Prog4.cells {W : World} {g : Nat} {kind : Int} {ax ah : Option Addr} {nx cx nh ch : Nat} {pv : Value} (h : Prog4 W g kind ax ah nx cx nh ch pv) : W.cell? ⟨g, 0, none⟩ = some (.int .i64 kind) ∧ W.cell? ⟨g, 1, none⟩ = some (.slice ax nx cx) ∧ W.cell? ⟨g, 2, none⟩ = some (.slice ah nh ch) ∧ W.cell? ⟨g, 3, none⟩ = some pv := by
  refine ⟨?_, ?_, ?_, ?_⟩ <;> (rw [Frm.cell_row _ _ _ _ _ _ h.body]; rfl)
theorem Prog4.turn {W W' : World} {F : List Nat} {g : Nat} {kind : Int} {ax ah : Option Addr} {nx cx nh ch : Nat} {pv : Value} (h : Prog4 W g kind ax ah nx cx nh ch pv) (hT : Frm.Turn F W W') (hg : g ∉ F) : Prog4 W' g kind ax ah nx cx nh ch pv := ⟨hT.keep h.body hg⟩
set_option maxRecDepth 100000 in
set_option maxHeartbeats 4000000 in
theorem counts_great (wv pv : Value) (R Q : List RowV) (kind : Int) (ax ah : Option Addr) (nx cx nh ch : Nat) (w : World) (hw : RowsAt w wv R) (hp : RowsAt w pv Q) (hs : heft R + (10 + nx + nh) + heft Q ≤ 1000000000) (hg : 2000 < heft R + (10 + nx + nh) + heft Q) :
    Calls Try.prog 7 #[wv, .agg #[.int .i64 kind, .slice ax nx cx, .slice ah nh ch, pv]] w fun e w' => e = .returned (.bool true) ∧ Frm.Turn [] w w' := by
  have HG := Lib.hid (fun W (hT : Frm.Turn [] w W) g (c0 : W.cell? ⟨g, 0, none⟩ = some (.int .i64 kind)) (c1 : W.cell? ⟨g, 1, none⟩ = some (.slice ax nx cx)) (c2 : W.cell? ⟨g, 2, none⟩ = some (.slice ah nh ch)) (c3 : W.cell? ⟨g, 3, none⟩ = some pv) =>
    great_any wv pv R Q g kind ax ah nx cx nh ch W (hw.turn hT (by simp) (by simp)) (hp.turn hT (by simp) (by simp)) c0 c1 c2 c3 hs)
  rw [show decide (2000 < heft R + (10 + nx + nh) + heft Q) = true from by simpa using hg] at HG
  have HT0 := Lib.hid (fun cs => (Frm.Turn.refl [] w).alloc (.cells cs 86))
  have HB0 : Hid (Prog4 (w.alloc (.cells #[.int .i64 kind, .slice ax nx cx, .slice ah nh ch, pv] 86)) w.heap.size kind ax ah nx cx nh ch pv) := Lib.hid ⟨World.alloc_heap_new w _⟩
  clear hw hp hs hg
  go_enter Try.func7, Try.ntmps7
  go_upto_region 3 with (first
    | (go_at_call 38; (with_reducible refine (pfirst_any _).mono ?_); rintro e w1 ⟨rfl, hT⟩; have HT1 := Lib.hid ((HT0.out _).trans hT (by simp)); have HB1 := Lib.hid (HB0.out.turn hT (by simp)); clear hT))
  obtain ⟨d0, d1, d2, d3⟩ := HB1.out.cells
  have HTA := Lib.hid (HT1.out.alloc (.cells #[.int .i64 kind, .slice ax nx cx, .slice ah nh ch, pv] 86))
  have HC := Lib.hid (HG.out _ HTA.out w1.heap.size (by rw [Frm.cell_row _ _ _ _ _ _ (World.alloc_heap_new w1 _)]; rfl) (by rw [Frm.cell_row _ _ _ _ _ _ (World.alloc_heap_new w1 _)]; rfl) (by rw [Frm.cell_row _ _ _ _ _ _ (World.alloc_heap_new w1 _)]; rfl) (by rw [Frm.cell_row _ _ _ _ _ _ (World.alloc_heap_new w1 _)]; rfl))
  clear HG HT0 HB0
  go_wp2_with (first
    | (go_at_call 46; (with_reducible refine (HC.out).mono ?_); rintro e w2 ⟨rfl, hT⟩; have HT2 := Lib.hid (HTA.out.trans hT (by simp)); clear hT))
  go_ret
  exact ⟨rfl, HT2.out⟩
end Pac
end Go.Proofs.Ytkjcccjkfjebaaa
