/- The document's heads read, entries read. Made by tools/head-rread.py. -/
import Derived.Test.YtmjdcpcndggflaaDoorHeadRefs
import Derived.Test.YtmjdcpcndggflaaDoorHeadRead
import Derived.BigRegion
import Derived.Laws.Tables
import Derived.StillTailTactics
set_option linter.unusedVariables false
set_option linter.unusedSimpArgs false
namespace Go.Proofs.YtmjdcpcndggflaaDoor
namespace Hed
open Go.RowKit Go.Maps Arn

set_option maxRecDepth 100000 in
set_option maxHeartbeats 4000000 in
theorem RRead_len (l : List Int) (v : Value) (w : World) (h : WordsAt w v l) (hl : l.length ≠ 8) :
    Calls Tryd.prog 15 #[v] w fun e w' => e = .returned (.tuple #[.int .u64 0, .agg #[.int .u64 0, .int .i64 0, .int .u64 0, .int .i64 0, .int .i64 0, .int .u64 0, .int .i64 0], .bool false]) ∧ Frm.Turn [] w w' := by
  obtain ⟨a, c, rfl⟩ := WordsAt.form' h
  have t0 : ((l.length : Int) != 8) = true := by simp; omega
  generalize l.length = n at hl t0 ⊢
  have HT : Hid (Frm.Turn [] w (w.alloc (verO 0 0 0 0 0 0 0))) := Lib.hid ((Frm.Turn.refl [] w).alloc _)
  clear h hl
  go_enter Tryd.func15, Tryd.ntmps15
  go_wp2
  refine bodyPost_ret (v := .tuple #[.int .u64 0, .agg #[.int .u64 0, .int .i64 0, .int .u64 0, .int .i64 0, .int .i64 0, .int .u64 0, .int .i64 0], .bool false]) (by simp [results, Tryd.results15, go_sem]) rfl ⟨rfl, ?_⟩
  exact HT.out
set_option maxRecDepth 100000 in
set_option maxHeartbeats 4000000 in
theorem RRead_far (c m q s x2 x4 x5 x7 : Int) (v : Value) (w : World) (h : WordsAt w v [c, m, x2, q, x4, x5, s, x7]) (hf : ¬ (x2 ≤ 256 ∧ x4 ≤ 255 ∧ x5 ≤ 256 ∧ x7 ≤ 256)) :
    Calls Tryd.prog 15 #[v] w fun e w' => e = .returned (.tuple #[.int .u64 0, .agg #[.int .u64 0, .int .i64 0, .int .u64 0, .int .i64 0, .int .i64 0, .int .u64 0, .int .i64 0], .bool false]) ∧ Frm.Turn [] w w' := by
  obtain ⟨a, cc, rfl, hcs⟩ := eight_cells h
  have HT : Hid (Frm.Turn [] w (w.alloc (verO 0 0 0 0 0 0 0))) := Lib.hid ((Frm.Turn.refl [] w).alloc _)
  obtain ⟨c0, c1, c2, c3, c4, c5, c6, c7⟩ := hcs _ ((Frm.Turn.refl [] w).alloc (.cells #[.int .u64 0, .int .i64 0, .int .u64 0, .int .i64 0, .int .i64 0, .int .u64 0, .int .i64 0] 24))
  have hcase : 256 < x2 ∨ (x2 ≤ 256 ∧ 255 < x4) ∨ (x2 ≤ 256 ∧ x4 ≤ 255 ∧ 256 < x5) ∨ (x2 ≤ 256 ∧ x4 ≤ 255 ∧ x5 ≤ 256 ∧ 256 < x7) := by omega
  clear hf h hcs c0 c1 c3 c6
  rcases hcase with h1 | ⟨h1, h2⟩ | ⟨h1, h2, h3⟩ | ⟨h1, h2, h3, h4⟩
  all_goals
    go_enter Tryd.func15, Tryd.ntmps15
    go_wp2
    refine bodyPost_ret (v := .tuple #[.int .u64 0, .agg #[.int .u64 0, .int .i64 0, .int .u64 0, .int .i64 0, .int .i64 0, .int .u64 0, .int .i64 0], .bool false]) (by simp [results, Tryd.results15, go_sem]) rfl ⟨rfl, ?_⟩
    exact HT.out
set_option maxRecDepth 100000 in
set_option maxHeartbeats 8000000 in
theorem RRead_eight (c m ml q fr ql s sl x2 x4 x5 x7 : Int) (v : Value) (w : World) (h : WordsAt w v [c, m, x2, q, x4, x5, s, x7]) (hc : W64 c) (hm : W64 m) (hq : W64 q) (hs : W64 s) (i2 : IntKind.i64.wrap x2 = ml) (i4 : IntKind.i64.wrap x4 = fr) (i5 : IntKind.i64.wrap x5 = ql) (i7 : IntKind.i64.wrap x7 = sl) (g2 : x2 ≤ 256) (g4 : x4 ≤ 255) (g5 : x5 ≤ 256) (g7 : x7 ≤ 256) (b : Bool) (hb : headB c m ml q fr ql s sl = b) :
    Calls Tryd.prog 15 #[v] w fun e w' => e = .returned (if b then .tuple #[.int .u64 c, .agg #[.int .u64 m, .int .i64 ml, .int .u64 q, .int .i64 fr, .int .i64 ql, .int .u64 s, .int .i64 sl], .bool true] else .tuple #[.int .u64 0, .agg #[.int .u64 0, .int .i64 0, .int .u64 0, .int .i64 0, .int .i64 0, .int .u64 0, .int .i64 0], .bool false]) ∧ Frm.Turn [] w w' := by
  obtain ⟨a, cc, rfl, hcs⟩ := eight_cells h
  have HT : Hid (∀ o o', Frm.Turn [] w (((w.alloc o).alloc o').drew)) := Lib.hid (fun o o' => (((Frm.Turn.refl [] w).alloc o).alloc o').drew)
  have HB0 : Hid (∀ o o', (((w.alloc o).alloc o').drew).heap[w.heap.size]? = some o) := Lib.hid (fun o o' => Ops.heap_below w o o')
  have HB1 : Hid (∀ o o', (((w.alloc o).alloc o').drew).heap[w.heap.size + 1]? = some o') := Lib.hid (fun o o' => Ops.heap_last w o o')
  have HI := Lib.hid (fun W => RWords_any c m ml q fr ql s sl W hc hm hq hs)
  rw [hb] at HI
  have hT1 : Frm.Turn [] w (w.alloc (.cells #[.int .u64 0, .int .i64 0, .int .u64 0, .int .i64 0, .int .i64 0, .int .u64 0, .int .i64 0] 24)) := (Frm.Turn.refl [] w).alloc _
  obtain ⟨c0, c1, c2, c3, c4, c5, c6, c7⟩ := hcs _ hT1
  have HCS := Lib.hid hcs
  have HAL : Hid (a.block < w.heap.size) := Lib.hid (World.block_lt_of_cell? w _ (hcs w (Frm.Turn.refl [] w)).1)
  clear hb h hcs hT1 hc hm hq hs
  clear c0 c1 c3 c6
  go_enter Tryd.func15, Tryd.ntmps15
  go_wp2_with fail
  clear c2 c4 c5 c7
  refine wp_region_held_drew (S := fun W' => W'.cell? a = some (.int .u64 c) ∧ W'.cell? { a with off := a.off + 1, spot := none } = some (.int .u64 m) ∧ W'.cell? { a with off := a.off + 2, spot := none } = some (.int .u64 x2) ∧ W'.cell? { a with off := a.off + 3, spot := none } = some (.int .u64 q) ∧ W'.cell? { a with off := a.off + 4, spot := none } = some (.int .u64 x4) ∧ W'.cell? { a with off := a.off + 5, spot := none } = some (.int .u64 x5) ∧ W'.cell? { a with off := a.off + 6, spot := none } = some (.int .u64 s) ∧ W'.cell? { a with off := a.off + 7, spot := none } = some (.int .u64 x7)) (by kernel_rfl) ?_ (fun hHeld => ?_)
  · exact HCS.out _ ((Frm.Turn.refl [] w).alloc _).drew
  refine wpAnyH_take (i := 0) (v := ?_) rfl (by kernel_rfl) (by kernel_rfl) (by kernel_rfl) (fun _ _ _ h => h) (Or.inl ⟨by rfl, ?_⟩) (by assumption) ?_
  rotate_left
  · (intro w hSw; (try dsimp only at hSw); go_simp; try with_reducible rfl)
  try simp only [Act.put, List.getElem_toArray, List.getElem_cons_succ, List.getElem_cons_zero, List.setIfInBounds_toArray, List.set_cons_zero, List.set_cons_succ]
  refine wpAnyH_take (i := 1) (v := ?_) rfl (by kernel_rfl) (by kernel_rfl) (by kernel_rfl) (fun _ _ _ h => h) (Or.inl ⟨by rfl, ?_⟩) (by assumption) ?_
  rotate_left
  · (intro w hSw; (try dsimp only at hSw); go_simp; try with_reducible rfl)
  try simp only [Act.put, List.getElem_toArray, List.getElem_cons_succ, List.getElem_cons_zero, List.setIfInBounds_toArray, List.set_cons_zero, List.set_cons_succ]
  refine wpAnyH_take (i := 2) (v := ?_) rfl (by kernel_rfl) (by kernel_rfl) (by kernel_rfl) (fun _ _ _ h => h) (Or.inl ⟨by rfl, ?_⟩) (by assumption) ?_
  rotate_left
  · (intro w hSw; (try dsimp only at hSw); go_simp; try with_reducible rfl)
  try simp only [Act.put, List.getElem_toArray, List.getElem_cons_succ, List.getElem_cons_zero, List.setIfInBounds_toArray, List.set_cons_zero, List.set_cons_succ]
  refine wpAnyH_take (i := 3) (v := ?_) rfl (by kernel_rfl) (by kernel_rfl) (by kernel_rfl) (fun _ _ _ h => h) (Or.inl ⟨by rfl, ?_⟩) (by assumption) ?_
  rotate_left
  · (intro w hSw; (try dsimp only at hSw); go_simp; try with_reducible rfl)
  try simp only [Act.put, List.getElem_toArray, List.getElem_cons_succ, List.getElem_cons_zero, List.setIfInBounds_toArray, List.set_cons_zero, List.set_cons_succ]
  refine wpAnyH_take (i := 4) (v := ?_) rfl (by kernel_rfl) (by kernel_rfl) (by kernel_rfl) (fun _ _ _ h => h) (Or.inl ⟨by rfl, ?_⟩) (by assumption) ?_
  rotate_left
  · (intro w hSw; (try dsimp only at hSw); go_simp; try with_reducible rfl)
  try simp only [Act.put, List.getElem_toArray, List.getElem_cons_succ, List.getElem_cons_zero, List.setIfInBounds_toArray, List.set_cons_zero, List.set_cons_succ]
  refine wpAnyH_take (i := 5) (v := ?_) rfl (by kernel_rfl) (by kernel_rfl) (by kernel_rfl) (fun _ _ _ h => h) (Or.inl ⟨by rfl, ?_⟩) (by assumption) ?_
  rotate_left
  · (intro w hSw; (try dsimp only at hSw); go_simp; try with_reducible rfl)
  try simp only [Act.put, List.getElem_toArray, List.getElem_cons_succ, List.getElem_cons_zero, List.setIfInBounds_toArray, List.set_cons_zero, List.set_cons_succ]
  refine wpAnyH_take (i := 6) (v := ?_) rfl (by kernel_rfl) (by kernel_rfl) (by kernel_rfl) (fun _ _ _ h => h) (Or.inl ⟨by rfl, ?_⟩) (by assumption) ?_
  rotate_left
  · (intro w hSw; (try dsimp only at hSw); go_simp; try with_reducible rfl)
  try simp only [Act.put, List.getElem_toArray, List.getElem_cons_succ, List.getElem_cons_zero, List.setIfInBounds_toArray, List.set_cons_zero, List.set_cons_succ]
  refine wpAnyH_take (i := 7) (v := ?_) rfl (by kernel_rfl) (by kernel_rfl) (by kernel_rfl) (fun _ _ _ h => h) (Or.inl ⟨by rfl, ?_⟩) (by assumption) ?_
  rotate_left
  · (intro w hSw; (try dsimp only at hSw); go_simp; try with_reducible rfl)
  try simp only [Act.put, List.getElem_toArray, List.getElem_cons_succ, List.getElem_cons_zero, List.setIfInBounds_toArray, List.set_cons_zero, List.set_cons_succ]
  refine wpAnyH_take (i := 8) (v := ?_) rfl (by kernel_rfl) (by kernel_rfl) (by kernel_rfl) (fun _ _ _ h => h) (Or.inl ⟨by rfl, ?_⟩) (by assumption) ?_
  rotate_left
  · (intro w hSw; (try dsimp only at hSw); go_simp; try with_reducible rfl)
  try simp only [Act.put, List.getElem_toArray, List.getElem_cons_succ, List.getElem_cons_zero, List.setIfInBounds_toArray, List.set_cons_zero, List.set_cons_succ]
  refine wpAnyH_take (i := 9) (v := ?_) rfl (by kernel_rfl) (by kernel_rfl) (by kernel_rfl) (fun _ _ _ h => h) (Or.inl ⟨by rfl, ?_⟩) (by assumption) ?_
  rotate_left
  · (intro w hSw; (try dsimp only at hSw); go_simp; try with_reducible rfl)
  try simp only [Act.put, List.getElem_toArray, List.getElem_cons_succ, List.getElem_cons_zero, List.setIfInBounds_toArray, List.set_cons_zero, List.set_cons_succ]
  refine wpAnyH_take (i := 10) (v := ?_) rfl (by kernel_rfl) (by kernel_rfl) (by kernel_rfl) (fun _ _ _ h => h) (Or.inl ⟨by rfl, ?_⟩) (by assumption) ?_
  rotate_left
  · (intro w hSw; (try dsimp only at hSw); go_simp; try with_reducible rfl)
  try simp only [Act.put, List.getElem_toArray, List.getElem_cons_succ, List.getElem_cons_zero, List.setIfInBounds_toArray, List.set_cons_zero, List.set_cons_succ]
  refine wpAnyH_take (i := 11) (v := ?_) rfl (by kernel_rfl) (by kernel_rfl) (by kernel_rfl) (fun _ _ _ h => h) (Or.inl ⟨by rfl, ?_⟩) (by assumption) ?_
  rotate_left
  · (intro w hSw; (try dsimp only at hSw); go_simp; try with_reducible rfl)
  try simp only [Act.put, List.getElem_toArray, List.getElem_cons_succ, List.getElem_cons_zero, List.setIfInBounds_toArray, List.set_cons_zero, List.set_cons_succ]
  refine wpAnyH_take (i := 12) (v := ?_) rfl (by kernel_rfl) (by kernel_rfl) (by kernel_rfl) (fun _ _ _ h => h) (Or.inl ⟨by rfl, ?_⟩) (by assumption) ?_
  rotate_left
  · (intro w hSw; (try dsimp only at hSw); go_simp; try with_reducible rfl)
  try simp only [Act.put, List.getElem_toArray, List.getElem_cons_succ, List.getElem_cons_zero, List.setIfInBounds_toArray, List.set_cons_zero, List.set_cons_succ]
  refine wpAnyH_take (i := 13) (v := ?_) rfl (by kernel_rfl) (by kernel_rfl) (by kernel_rfl) (fun _ _ _ h => h) (Or.inl ⟨by rfl, ?_⟩) (by assumption) ?_
  rotate_left
  · (intro w hSw; (try dsimp only at hSw); go_simp; try with_reducible rfl)
  try simp only [Act.put, List.getElem_toArray, List.getElem_cons_succ, List.getElem_cons_zero, List.setIfInBounds_toArray, List.set_cons_zero, List.set_cons_succ]
  refine wpAnyH_take (i := 14) (v := ?_) rfl (by kernel_rfl) (by kernel_rfl) (by kernel_rfl) (fun _ _ _ h => h) (Or.inl ⟨by rfl, ?_⟩) (by assumption) ?_
  rotate_left
  · (intro w hSw; (try dsimp only at hSw); go_simp; try with_reducible rfl)
  try simp only [Act.put, List.getElem_toArray, List.getElem_cons_succ, List.getElem_cons_zero, List.setIfInBounds_toArray, List.set_cons_zero, List.set_cons_succ]
  refine wpAnyH_take (i := 15) (v := ?_) rfl (by kernel_rfl) (by kernel_rfl) (by kernel_rfl) (fun _ _ _ h => h) (Or.inl ⟨by rfl, ?_⟩) (by assumption) ?_
  rotate_left
  · (intro w hSw; (try dsimp only at hSw); go_simp; try with_reducible rfl)
  try simp only [Act.put, List.getElem_toArray, List.getElem_cons_succ, List.getElem_cons_zero, List.setIfInBounds_toArray, List.set_cons_zero, List.set_cons_succ]
  refine wpAnyH_take (i := 16) (v := ?_) rfl (by kernel_rfl) (by kernel_rfl) (by kernel_rfl) (fun _ _ _ h => h) (Or.inl ⟨by rfl, ?_⟩) (by assumption) ?_
  rotate_left
  · (intro w hSw; (try dsimp only at hSw); go_simp; try with_reducible rfl)
  try simp only [Act.put, List.getElem_toArray, List.getElem_cons_succ, List.getElem_cons_zero, List.setIfInBounds_toArray, List.set_cons_zero, List.set_cons_succ]
  refine wpAnyH_take (i := 17) (v := ?_) rfl (by kernel_rfl) (by kernel_rfl) (by kernel_rfl) (fun _ _ _ h => h) (Or.inl ⟨by rfl, ?_⟩) (by assumption) ?_
  rotate_left
  · (intro w hSw; (try dsimp only at hSw); go_simp; try with_reducible rfl)
  try simp only [Act.put, List.getElem_toArray, List.getElem_cons_succ, List.getElem_cons_zero, List.setIfInBounds_toArray, List.set_cons_zero, List.set_cons_succ]
  refine wpAnyH_take (i := 18) (v := ?_) rfl (by kernel_rfl) (by kernel_rfl) (by kernel_rfl) (fun _ _ _ h => h) (Or.inl ⟨by rfl, ?_⟩) (by assumption) ?_
  rotate_left
  · (intro w hSw; (try dsimp only at hSw); go_simp; try with_reducible rfl)
  try simp only [Act.put, List.getElem_toArray, List.getElem_cons_succ, List.getElem_cons_zero, List.setIfInBounds_toArray, List.set_cons_zero, List.set_cons_succ]
  refine wpAnyH_take (i := 19) (v := ?_) rfl (by kernel_rfl) (by kernel_rfl) (by kernel_rfl) (fun _ _ _ h => h) (Or.inl ⟨by rfl, ?_⟩) (by assumption) ?_
  rotate_left
  · (intro w hSw; (try dsimp only at hSw); go_simp; try with_reducible rfl)
  try simp only [Act.put, List.getElem_toArray, List.getElem_cons_succ, List.getElem_cons_zero, List.setIfInBounds_toArray, List.set_cons_zero, List.set_cons_succ]
  refine wpAnyH_take (i := 20) (v := ?_) rfl (by kernel_rfl) (by kernel_rfl) (by kernel_rfl) (fun _ _ _ h => h) (Or.inl ⟨by rfl, ?_⟩) (by assumption) ?_
  rotate_left
  · (intro w hSw; (try dsimp only at hSw); go_simp; try with_reducible rfl)
  try simp only [Act.put, List.getElem_toArray, List.getElem_cons_succ, List.getElem_cons_zero, List.setIfInBounds_toArray, List.set_cons_zero, List.set_cons_succ]
  refine wpAnyH_take (i := 21) (v := ?_) rfl (by kernel_rfl) (by kernel_rfl) (by kernel_rfl) (fun _ _ _ h => h) (Or.inl ⟨by rfl, ?_⟩) (by assumption) ?_
  rotate_left
  · (intro w hSw; (try dsimp only at hSw); go_simp; try with_reducible rfl)
  try simp only [Act.put, List.getElem_toArray, List.getElem_cons_succ, List.getElem_cons_zero, List.setIfInBounds_toArray, List.set_cons_zero, List.set_cons_succ]
  refine wpAnyH_take (i := 22) (v := ?_) rfl (by kernel_rfl) (by kernel_rfl) (by kernel_rfl) (fun _ _ _ h => h) (Or.inl ⟨by rfl, ?_⟩) (by assumption) ?_
  rotate_left
  · (intro w hSw; (try dsimp only at hSw); go_simp; try with_reducible rfl)
  try simp only [Act.put, List.getElem_toArray, List.getElem_cons_succ, List.getElem_cons_zero, List.setIfInBounds_toArray, List.set_cons_zero, List.set_cons_succ]
  refine wpAnyH_take (i := 23) (v := ?_) rfl (by kernel_rfl) (by kernel_rfl) (by kernel_rfl) (fun _ _ _ h => h) (Or.inl ⟨by rfl, ?_⟩) (by assumption) ?_
  rotate_left
  · (intro w hSw; (try dsimp only at hSw); go_simp; try with_reducible rfl)
  try simp only [Act.put, List.getElem_toArray, List.getElem_cons_succ, List.getElem_cons_zero, List.setIfInBounds_toArray, List.set_cons_zero, List.set_cons_succ]
  refine wpAnyH_take (i := 24) (v := ?_) rfl (by kernel_rfl) (by kernel_rfl) (by kernel_rfl) (fun _ _ _ h => h) (Or.inl ⟨by rfl, ?_⟩) (by assumption) ?_
  rotate_left
  · (intro w hSw; (try dsimp only at hSw); go_simp; try with_reducible rfl)
  try simp only [Act.put, List.getElem_toArray, List.getElem_cons_succ, List.getElem_cons_zero, List.setIfInBounds_toArray, List.set_cons_zero, List.set_cons_succ]
  refine wpAnyH_take (i := 25) (v := ?_) rfl (by kernel_rfl) (by kernel_rfl) (by kernel_rfl) (fun _ _ _ h => h) (Or.inl ⟨by rfl, ?_⟩) (by assumption) ?_
  rotate_left
  · (intro w hSw; (try dsimp only at hSw); go_simp; try with_reducible rfl)
  try simp only [Act.put, List.getElem_toArray, List.getElem_cons_succ, List.getElem_cons_zero, List.setIfInBounds_toArray, List.set_cons_zero, List.set_cons_succ]
  refine wpAnyH_ready (rs := [26]) (by kernel_rfl) (by simp) ?_
  refine AllReadyH.cons rfl (fun K hK => ?_) AllReadyH.nil
  try simp only [List.getElem_toArray, List.getElem_cons_succ, List.getElem_cons_zero]
  go_wp2_with fail
  refine hK _ _ (HCS.out _ (((Frm.Turn.refl [] w).alloc _).drew.alloc _)) (fun hHeld => ?_)
  clear hK K
  try simp only [Act.put, List.getElem_toArray, List.getElem_cons_succ, List.getElem_cons_zero, List.setIfInBounds_toArray, List.set_cons_zero, List.set_cons_succ]
  refine wpAnyH_ready (rs := [27]) (by kernel_rfl) (by simp) ?_
  refine AllReadyH.cons rfl (fun K hK => ?_) AllReadyH.nil
  try simp only [List.getElem_toArray, List.getElem_cons_succ, List.getElem_cons_zero]
  go_wp2_with fail
  refine hK _ _ (HCS.out _ (((Frm.Turn.refl [] w).alloc _).alloc _).drew) (fun hHeld => ?_)
  clear hK K
  refine wpAnyH_done (by kernel_rfl) ?_ _
  go_wp2_with fail
  obtain ⟨c0, _⟩ := HCS.out _ (HT.out (.cells #[.int .u64 0, .int .i64 0, .int .u64 0, .int .i64 0, .int .i64 0, .int .u64 0, .int .i64 0] 24) (.cells #[.int .u64 m, .int .i64 ml, .int .u64 q, .int .i64 fr, .int .i64 ql, .int .u64 s, .int .i64 sl] 24))
  obtain ⟨⟨e0, e1, e2, e3, e4, e5, e6⟩, _⟩ := blk7 (HB1.out (.cells #[.int .u64 0, .int .i64 0, .int .u64 0, .int .i64 0, .int .i64 0, .int .u64 0, .int .i64 0] 24) (.cells #[.int .u64 m, .int .i64 ml, .int .u64 q, .int .i64 fr, .int .i64 ql, .int .u64 s, .int .i64 sl] 24))
  have HT0 := Lib.hid (HT.out (.cells #[.int .u64 0, .int .i64 0, .int .u64 0, .int .i64 0, .int .i64 0, .int .u64 0, .int .i64 0] 24) (.cells #[.int .u64 m, .int .i64 ml, .int .u64 q, .int .i64 fr, .int .i64 ql, .int .u64 s, .int .i64 sl] 24))
  have HZ0 := Lib.hid (HB0.out (.cells #[.int .u64 0, .int .i64 0, .int .u64 0, .int .i64 0, .int .i64 0, .int .u64 0, .int .i64 0] 24) (.cells #[.int .u64 m, .int .i64 ml, .int .u64 q, .int .i64 fr, .int .i64 ql, .int .u64 s, .int .i64 sl] 24))
  have HV0 := Lib.hid (HB1.out (.cells #[.int .u64 0, .int .i64 0, .int .u64 0, .int .i64 0, .int .i64 0, .int .u64 0, .int .i64 0] 24) (.cells #[.int .u64 m, .int .i64 ml, .int .u64 q, .int .i64 fr, .int .i64 ql, .int .u64 s, .int .i64 sl] 24))
  clear HT HB0 HB1 c0 e0 e1 e2 e3 e4 e5 e6
  first | generalize ((w.alloc (.cells #[.int .u64 0, .int .i64 0, .int .u64 0, .int .i64 0, .int .i64 0, .int .u64 0, .int .i64 0] 24)).alloc (.cells #[.int .u64 m, .int .i64 ml, .int .u64 q, .int .i64 fr, .int .i64 ql, .int .u64 s, .int .i64 sl] 24)).drew = W0 at HT0 HZ0 HV0 hHeld ⊢ | generalize ((w.alloc (.cells #[.int .u64 0, .int .i64 0, .int .u64 0, .int .i64 0, .int .i64 0, .int .u64 0, .int .i64 0] 24)).alloc (.cells #[.int .u64 m, .int .i64 ml, .int .u64 q, .int .i64 fr, .int .i64 ql, .int .u64 s, .int .i64 sl] 24)).drew = W0 at HT0 HZ0 HV0 ⊢
  have HG0 : Hid (∀ W, Frm.Turn [] W0 W → W.cell? a = some (.int .u64 c) ∧ W.cell? ⟨w.heap.size + 1, 0, none⟩ = some (.int .u64 m) ∧ W.cell? ⟨w.heap.size + 1, 1, none⟩ = some (.int .i64 ml) ∧ W.cell? ⟨w.heap.size + 1, 2, none⟩ = some (.int .u64 q) ∧ W.cell? ⟨w.heap.size + 1, 3, none⟩ = some (.int .i64 fr) ∧ W.cell? ⟨w.heap.size + 1, 4, none⟩ = some (.int .i64 ql) ∧ W.cell? ⟨w.heap.size + 1, 5, none⟩ = some (.int .u64 s) ∧ W.cell? ⟨w.heap.size + 1, 6, none⟩ = some (.int .i64 sl)) := Lib.hid fun W hTW => ⟨(HCS.out _ (HT0.out.trans hTW (by simp))).1, (blk7 (hTW.keep HV0.out (by simp))).1⟩
  cases b with
  | false =>
    refine wp_region_held_drew (S := fun W' => W'.cell? a = some (.int .u64 c) ∧ W'.cell? ⟨w.heap.size + 1, 0, none⟩ = some (.int .u64 m) ∧ W'.cell? ⟨w.heap.size + 1, 1, none⟩ = some (.int .i64 ml) ∧ W'.cell? ⟨w.heap.size + 1, 2, none⟩ = some (.int .u64 q) ∧ W'.cell? ⟨w.heap.size + 1, 3, none⟩ = some (.int .i64 fr) ∧ W'.cell? ⟨w.heap.size + 1, 4, none⟩ = some (.int .i64 ql) ∧ W'.cell? ⟨w.heap.size + 1, 5, none⟩ = some (.int .u64 s) ∧ W'.cell? ⟨w.heap.size + 1, 6, none⟩ = some (.int .i64 sl)) (by kernel_rfl) ?_ (fun hHeld => ?_)
    · exact HG0.out _ (Frm.Turn.refl [] W0).drew
    refine wpAnyH_take (i := 0) (v := ?_) rfl (by kernel_rfl) (by kernel_rfl) (by kernel_rfl) (fun _ _ _ h => h) (Or.inl ⟨by rfl, ?_⟩) (by assumption) ?_
    rotate_left
    · (intro w hSw; (try dsimp only at hSw); go_simp; try with_reducible rfl)
    try simp only [Act.put, List.getElem_toArray, List.getElem_cons_succ, List.getElem_cons_zero, List.setIfInBounds_toArray, List.set_cons_zero, List.set_cons_succ]
    refine wpAnyH_take (i := 1) (v := ?_) rfl (by kernel_rfl) (by kernel_rfl) (by kernel_rfl) (fun _ _ _ h => h) (Or.inl ⟨by rfl, ?_⟩) (by assumption) ?_
    rotate_left
    · (intro w hSw; (try dsimp only at hSw); go_simp; try with_reducible rfl)
    try simp only [Act.put, List.getElem_toArray, List.getElem_cons_succ, List.getElem_cons_zero, List.setIfInBounds_toArray, List.set_cons_zero, List.set_cons_succ]
    refine wpAnyH_take (i := 2) (v := ?_) rfl (by kernel_rfl) (by kernel_rfl) (by kernel_rfl) (fun _ _ _ h => h) (Or.inl ⟨by rfl, ?_⟩) (by assumption) ?_
    rotate_left
    · (intro w hSw; (try dsimp only at hSw); go_simp; try with_reducible rfl)
    try simp only [Act.put, List.getElem_toArray, List.getElem_cons_succ, List.getElem_cons_zero, List.setIfInBounds_toArray, List.set_cons_zero, List.set_cons_succ]
    refine wpAnyH_take (i := 3) (v := ?_) rfl (by kernel_rfl) (by kernel_rfl) (by kernel_rfl) (fun _ _ _ h => h) (Or.inl ⟨by rfl, ?_⟩) (by assumption) ?_
    rotate_left
    · (intro w hSw; (try dsimp only at hSw); go_simp; try with_reducible rfl)
    try simp only [Act.put, List.getElem_toArray, List.getElem_cons_succ, List.getElem_cons_zero, List.setIfInBounds_toArray, List.set_cons_zero, List.set_cons_succ]
    refine wpAnyH_ready (rs := [4]) (by kernel_rfl) (by simp) ?_
    refine AllReadyH.cons rfl (fun K hK => ?_) AllReadyH.nil
    try simp only [List.getElem_toArray, List.getElem_cons_succ, List.getElem_cons_zero]
    have HK4 := Lib.hid hK
    clear hK
    go_simp
    (go_at_call 10; go_must (with_reducible refine (HI.out _).mono ?_))
    rintro e w1 ⟨v1, rfl, _, ⟨a1, n1, c1, rfl⟩, hT⟩
    have HTC := Lib.hid hT
    clear hT
    refine HK4.out _ _ (HG0.out w1 ((Frm.Turn.refl [] W0).drew.trans HTC.out (by simp))) (fun hHeld => ?_)
    clear HK4 K
    try simp only [Act.put, List.getElem_toArray, List.getElem_cons_succ, List.getElem_cons_zero, List.setIfInBounds_toArray, List.set_cons_zero, List.set_cons_succ]
    refine wpAnyH_take (i := 5) (v := ?_) rfl (by kernel_rfl) (by kernel_rfl) (by kernel_rfl) (fun _ _ _ h => h) (Or.inl ⟨by rfl, ?_⟩) (by assumption) ?_
    rotate_left
    · (intro w hSw; (try dsimp only at hSw); go_simp; try with_reducible rfl)
    try simp only [Act.put, List.getElem_toArray, List.getElem_cons_succ, List.getElem_cons_zero, List.setIfInBounds_toArray, List.set_cons_zero, List.set_cons_succ]
    refine wpAnyH_take (i := 6) (v := ?_) rfl (by kernel_rfl) (by kernel_rfl) (by kernel_rfl) (fun _ _ _ h => h) (Or.inl ⟨by rfl, ?_⟩) (by assumption) ?_
    rotate_left
    · (intro w hSw; (try dsimp only at hSw); go_simp; try with_reducible rfl)
    try simp only [Act.put, List.getElem_toArray, List.getElem_cons_succ, List.getElem_cons_zero, List.setIfInBounds_toArray, List.set_cons_zero, List.set_cons_succ]
    refine wpAnyH_take (i := 7) (v := ?_) rfl (by kernel_rfl) (by kernel_rfl) (by kernel_rfl) (fun _ _ _ h => h) (Or.inl ⟨by rfl, ?_⟩) (by assumption) ?_
    rotate_left
    · (intro w hSw; (try dsimp only at hSw); go_simp; try with_reducible rfl)
    try simp only [Act.put, List.getElem_toArray, List.getElem_cons_succ, List.getElem_cons_zero, List.setIfInBounds_toArray, List.set_cons_zero, List.set_cons_succ]
    refine wpAnyH_take (i := 8) (v := ?_) rfl (by kernel_rfl) (by kernel_rfl) (by kernel_rfl) (fun _ _ _ h => h) (Or.inl ⟨by rfl, ?_⟩) (by assumption) ?_
    rotate_left
    · (intro w hSw; (try dsimp only at hSw); go_simp; try with_reducible rfl)
    try simp only [Act.put, List.getElem_toArray, List.getElem_cons_succ, List.getElem_cons_zero, List.setIfInBounds_toArray, List.set_cons_zero, List.set_cons_succ]
    refine wpAnyH_take (i := 9) (v := ?_) rfl (by kernel_rfl) (by kernel_rfl) (by kernel_rfl) (fun _ _ _ h => h) (Or.inl ⟨by rfl, ?_⟩) (by assumption) ?_
    rotate_left
    · (intro w hSw; (try dsimp only at hSw); go_simp; try with_reducible rfl)
    try simp only [Act.put, List.getElem_toArray, List.getElem_cons_succ, List.getElem_cons_zero, List.setIfInBounds_toArray, List.set_cons_zero, List.set_cons_succ]
    refine wpAnyH_done (by kernel_rfl) ?_ _
    obtain ⟨⟨e0, e1, e2, e3, e4, e5, e6⟩, f0, f1, f2, f3, f4, f5, f6⟩ := blk7 (HTC.out.keep HZ0.out (by simp))
    have HT1 := Lib.hid (HT0.out.drew.trans HTC.out (by simp))
    go_wp2_with fail
    exact bodyPost_ret (v := .tuple #[.int .u64 0, .agg #[.int .u64 0, .int .i64 0, .int .u64 0, .int .i64 0, .int .i64 0, .int .u64 0, .int .i64 0], .bool false]) (by simp [results, Tryd.results15, go_sem, e0, e1, e2, e3, e4, e5, e6]) rfl ⟨rfl, ((((((HT1.out.setCell (p := ⟨w.heap.size, 0, none⟩) (.inr (Nat.le_refl _)) _).setCell (p := ⟨w.heap.size, 1, none⟩) (.inr (Nat.le_refl _)) _).setCell (p := ⟨w.heap.size, 2, none⟩) (.inr (Nat.le_refl _)) _).setCell (p := ⟨w.heap.size, 3, none⟩) (.inr (Nat.le_refl _)) _).setCell (p := ⟨w.heap.size, 4, none⟩) (.inr (Nat.le_refl _)) _).setCell (p := ⟨w.heap.size, 5, none⟩) (.inr (Nat.le_refl _)) _).setCell (p := ⟨w.heap.size, 6, none⟩) (.inr (Nat.le_refl _)) _⟩
  | true =>
    refine wp_region_held_drew (S := fun W' => W'.cell? a = some (.int .u64 c) ∧ W'.cell? ⟨w.heap.size + 1, 0, none⟩ = some (.int .u64 m) ∧ W'.cell? ⟨w.heap.size + 1, 1, none⟩ = some (.int .i64 ml) ∧ W'.cell? ⟨w.heap.size + 1, 2, none⟩ = some (.int .u64 q) ∧ W'.cell? ⟨w.heap.size + 1, 3, none⟩ = some (.int .i64 fr) ∧ W'.cell? ⟨w.heap.size + 1, 4, none⟩ = some (.int .i64 ql) ∧ W'.cell? ⟨w.heap.size + 1, 5, none⟩ = some (.int .u64 s) ∧ W'.cell? ⟨w.heap.size + 1, 6, none⟩ = some (.int .i64 sl)) (by kernel_rfl) ?_ (fun hHeld => ?_)
    · exact HG0.out _ (Frm.Turn.refl [] W0).drew
    refine wpAnyH_take (i := 0) (v := ?_) rfl (by kernel_rfl) (by kernel_rfl) (by kernel_rfl) (fun _ _ _ h => h) (Or.inl ⟨by rfl, ?_⟩) (by assumption) ?_
    rotate_left
    · (intro w hSw; (try dsimp only at hSw); go_simp; try with_reducible rfl)
    try simp only [Act.put, List.getElem_toArray, List.getElem_cons_succ, List.getElem_cons_zero, List.setIfInBounds_toArray, List.set_cons_zero, List.set_cons_succ]
    refine wpAnyH_take (i := 1) (v := ?_) rfl (by kernel_rfl) (by kernel_rfl) (by kernel_rfl) (fun _ _ _ h => h) (Or.inl ⟨by rfl, ?_⟩) (by assumption) ?_
    rotate_left
    · (intro w hSw; (try dsimp only at hSw); go_simp; try with_reducible rfl)
    try simp only [Act.put, List.getElem_toArray, List.getElem_cons_succ, List.getElem_cons_zero, List.setIfInBounds_toArray, List.set_cons_zero, List.set_cons_succ]
    refine wpAnyH_take (i := 2) (v := ?_) rfl (by kernel_rfl) (by kernel_rfl) (by kernel_rfl) (fun _ _ _ h => h) (Or.inl ⟨by rfl, ?_⟩) (by assumption) ?_
    rotate_left
    · (intro w hSw; (try dsimp only at hSw); go_simp; try with_reducible rfl)
    try simp only [Act.put, List.getElem_toArray, List.getElem_cons_succ, List.getElem_cons_zero, List.setIfInBounds_toArray, List.set_cons_zero, List.set_cons_succ]
    refine wpAnyH_take (i := 3) (v := ?_) rfl (by kernel_rfl) (by kernel_rfl) (by kernel_rfl) (fun _ _ _ h => h) (Or.inl ⟨by rfl, ?_⟩) (by assumption) ?_
    rotate_left
    · (intro w hSw; (try dsimp only at hSw); go_simp; try with_reducible rfl)
    try simp only [Act.put, List.getElem_toArray, List.getElem_cons_succ, List.getElem_cons_zero, List.setIfInBounds_toArray, List.set_cons_zero, List.set_cons_succ]
    refine wpAnyH_ready (rs := [4]) (by kernel_rfl) (by simp) ?_
    refine AllReadyH.cons rfl (fun K hK => ?_) AllReadyH.nil
    try simp only [List.getElem_toArray, List.getElem_cons_succ, List.getElem_cons_zero]
    have HK4 := Lib.hid hK
    clear hK
    go_simp
    (go_at_call 10; go_must (with_reducible refine (HI.out _).mono ?_))
    rintro e w1 ⟨v1, rfl, _, ⟨a1, n1, c1, rfl⟩, hT⟩
    have HTC := Lib.hid hT
    clear hT
    refine HK4.out _ _ (HG0.out w1 ((Frm.Turn.refl [] W0).drew.trans HTC.out (by simp))) (fun hHeld => ?_)
    clear HK4 K
    try simp only [Act.put, List.getElem_toArray, List.getElem_cons_succ, List.getElem_cons_zero, List.setIfInBounds_toArray, List.set_cons_zero, List.set_cons_succ]
    refine wpAnyH_take (i := 5) (v := ?_) rfl (by kernel_rfl) (by kernel_rfl) (by kernel_rfl) (fun _ _ _ h => h) (Or.inl ⟨by rfl, ?_⟩) (by assumption) ?_
    rotate_left
    · (intro w hSw; (try dsimp only at hSw); go_simp; try with_reducible rfl)
    try simp only [Act.put, List.getElem_toArray, List.getElem_cons_succ, List.getElem_cons_zero, List.setIfInBounds_toArray, List.set_cons_zero, List.set_cons_succ]
    refine wpAnyH_take (i := 6) (v := ?_) rfl (by kernel_rfl) (by kernel_rfl) (by kernel_rfl) (fun _ _ _ h => h) (Or.inl ⟨by rfl, ?_⟩) (by assumption) ?_
    rotate_left
    · (intro w hSw; (try dsimp only at hSw); go_simp; try with_reducible rfl)
    try simp only [Act.put, List.getElem_toArray, List.getElem_cons_succ, List.getElem_cons_zero, List.setIfInBounds_toArray, List.set_cons_zero, List.set_cons_succ]
    refine wpAnyH_take (i := 7) (v := ?_) rfl (by kernel_rfl) (by kernel_rfl) (by kernel_rfl) (fun _ _ _ h => h) (Or.inl ⟨by rfl, ?_⟩) (by assumption) ?_
    rotate_left
    · (intro w hSw; (try dsimp only at hSw); go_simp; try with_reducible rfl)
    try simp only [Act.put, List.getElem_toArray, List.getElem_cons_succ, List.getElem_cons_zero, List.setIfInBounds_toArray, List.set_cons_zero, List.set_cons_succ]
    refine wpAnyH_take (i := 8) (v := ?_) rfl (by kernel_rfl) (by kernel_rfl) (by kernel_rfl) (fun _ _ _ h => h) (Or.inl ⟨by rfl, ?_⟩) (by assumption) ?_
    rotate_left
    · (intro w hSw; (try dsimp only at hSw); go_simp; try with_reducible rfl)
    try simp only [Act.put, List.getElem_toArray, List.getElem_cons_succ, List.getElem_cons_zero, List.setIfInBounds_toArray, List.set_cons_zero, List.set_cons_succ]
    refine wpAnyH_take (i := 9) (v := ?_) rfl (by kernel_rfl) (by kernel_rfl) (by kernel_rfl) (fun _ _ _ h => h) (Or.inl ⟨by rfl, ?_⟩) (by assumption) ?_
    rotate_left
    · (intro w hSw; (try dsimp only at hSw); go_simp; try with_reducible rfl)
    try simp only [Act.put, List.getElem_toArray, List.getElem_cons_succ, List.getElem_cons_zero, List.setIfInBounds_toArray, List.set_cons_zero, List.set_cons_succ]
    refine wpAnyH_done (by kernel_rfl) ?_ _
    have HE := Lib.hid (HTC.out.drew.keep HZ0.out (by simp))
    have HE1 := Lib.hid (HTC.out.drew.keep HV0.out (by simp))
    have HT1 := Lib.hid (HT0.out.drew.trans HTC.out (by simp))
    have HC1 := Lib.hid (HCS.out _ HT1.out.drew).1
    go_wp2_with fail
    have HG : Hid (∀ W, Frm.Turn [w.heap.size] w1.drew W → W.cell? a = some (.int .u64 c) ∧ W.cell? ⟨w.heap.size + 1, 0, none⟩ = some (.int .u64 m) ∧ W.cell? ⟨w.heap.size + 1, 1, none⟩ = some (.int .i64 ml) ∧ W.cell? ⟨w.heap.size + 1, 2, none⟩ = some (.int .u64 q) ∧ W.cell? ⟨w.heap.size + 1, 3, none⟩ = some (.int .i64 fr) ∧ W.cell? ⟨w.heap.size + 1, 4, none⟩ = some (.int .i64 ql) ∧ W.cell? ⟨w.heap.size + 1, 5, none⟩ = some (.int .u64 s) ∧ W.cell? ⟨w.heap.size + 1, 6, none⟩ = some (.int .i64 sl)) := Lib.hid fun W hTW => ⟨hTW.cell HC1.out (by have := HAL.out; simp; omega), (blk7 (hTW.keep HE1.out (by simp))).1⟩
    refine wp_region_held_drew (S := fun W' => W'.cell? a = some (.int .u64 c) ∧ W'.cell? ⟨w.heap.size + 1, 0, none⟩ = some (.int .u64 m) ∧ W'.cell? ⟨w.heap.size + 1, 1, none⟩ = some (.int .i64 ml) ∧ W'.cell? ⟨w.heap.size + 1, 2, none⟩ = some (.int .u64 q) ∧ W'.cell? ⟨w.heap.size + 1, 3, none⟩ = some (.int .i64 fr) ∧ W'.cell? ⟨w.heap.size + 1, 4, none⟩ = some (.int .i64 ql) ∧ W'.cell? ⟨w.heap.size + 1, 5, none⟩ = some (.int .u64 s) ∧ W'.cell? ⟨w.heap.size + 1, 6, none⟩ = some (.int .i64 sl)) (by kernel_rfl) ?_ (fun hHeld => ?_)
    · exact HG.out _ (Frm.Turn.refl _ _)
    refine wpAnyH_take (i := 0) (v := ?_) rfl (by kernel_rfl) (by kernel_rfl) (by kernel_rfl) (fun _ _ _ h => h) (Or.inl ⟨by rfl, ?_⟩) (by assumption) ?_
    rotate_left
    · (intro w hSw; (try dsimp only at hSw); go_simp; try with_reducible rfl)
    try simp only [Act.put, List.getElem_toArray, List.getElem_cons_succ, List.getElem_cons_zero, List.setIfInBounds_toArray, List.set_cons_zero, List.set_cons_succ]
    refine wpAnyH_take (i := 1) (v := ?_) rfl (by kernel_rfl) (by kernel_rfl) (by kernel_rfl) (fun _ _ _ h => h) (Or.inl ⟨by rfl, ?_⟩) (by assumption) ?_
    rotate_left
    · (intro w hSw; (try dsimp only at hSw); go_simp; try with_reducible rfl)
    try simp only [Act.put, List.getElem_toArray, List.getElem_cons_succ, List.getElem_cons_zero, List.setIfInBounds_toArray, List.set_cons_zero, List.set_cons_succ]
    refine wpAnyH_take (i := 2) (v := ?_) rfl (by kernel_rfl) (by kernel_rfl) (by kernel_rfl) (fun _ _ _ h => h) (Or.inl ⟨by rfl, ?_⟩) (by assumption) ?_
    rotate_left
    · (intro w hSw; (try dsimp only at hSw); go_simp; try with_reducible rfl)
    try simp only [Act.put, List.getElem_toArray, List.getElem_cons_succ, List.getElem_cons_zero, List.setIfInBounds_toArray, List.set_cons_zero, List.set_cons_succ]
    refine wpAnyH_take (i := 3) (v := ?_) rfl (by kernel_rfl) (by kernel_rfl) (by kernel_rfl) (fun _ _ _ h => h) (Or.inl ⟨by rfl, ?_⟩) (by assumption) ?_
    rotate_left
    · (intro w hSw; (try dsimp only at hSw); go_simp; try with_reducible rfl)
    try simp only [Act.put, List.getElem_toArray, List.getElem_cons_succ, List.getElem_cons_zero, List.setIfInBounds_toArray, List.set_cons_zero, List.set_cons_succ]
    refine wpAnyH_take (i := 4) (v := ?_) rfl (by kernel_rfl) (by kernel_rfl) (by kernel_rfl) (fun _ _ _ h => h) (Or.inl ⟨by rfl, ?_⟩) (by assumption) ?_
    rotate_left
    · (intro w hSw; (try dsimp only at hSw); go_simp; try with_reducible rfl)
    try simp only [Act.put, List.getElem_toArray, List.getElem_cons_succ, List.getElem_cons_zero, List.setIfInBounds_toArray, List.set_cons_zero, List.set_cons_succ]
    have h9 := HE.out
    have hT9 := HT1.out.drew
    clear HE HE1 HT1 HC1
    generalize w1.drew = wd at h9 hT9 HG ⊢
    have HT9 := Lib.hid hT9
    have HE9 := Lib.hid h9
    clear h9 hT9
    refine wpAnyH_ready (rs := [5]) (by kernel_rfl) (by simp) ?_
    refine AllReadyH.cons rfl (fun K hK => ?_) AllReadyH.nil
    try simp only [List.getElem_toArray, List.getElem_cons_succ, List.getElem_cons_zero]
    refine wp_store_row 24 (.tmp 3) (.tmp 76) rfl w.heap.size #[.int .u64 m, .int .i64 ml, .int .u64 q, .int .i64 fr, .int .i64 ql, .int .u64 s, .int .i64 sl] rfl rfl 24 _ HE9.out info_ver rfl (by simp [Value.oneCell']) ?_
    refine hK _ _ (HG.out _ (setRow_turn (Frm.Turn.refl [w.heap.size] wd) (g := w.heap.size) (.inl (by simp)) _)) (fun hHeld => ?_)
    clear hK K
    have h4 := setRow_heap wd w.heap.size _ #[.int .u64 m, .int .i64 ml, .int .u64 q, .int .i64 fr, .int .i64 ql, .int .u64 s, .int .i64 sl] _ _ HE9.out
    have hT4 : Frm.Turn [] w (wd.setRow w.heap.size #[.int .u64 m, .int .i64 ml, .int .u64 q, .int .i64 fr, .int .i64 ql, .int .u64 s, .int .i64 sl]) := setRow_turn HT9.out (.inr (Nat.le_refl _)) _
    have hG4 := HG.out _ (setRow_turn (Frm.Turn.refl [w.heap.size] wd) (g := w.heap.size) (.inl (by simp)) #[.int .u64 m, .int .i64 ml, .int .u64 q, .int .i64 fr, .int .i64 ql, .int .u64 s, .int .i64 sl])
    clear HG HE9 HT9
    first | generalize wd.setRow w.heap.size #[.int .u64 m, .int .i64 ml, .int .u64 q, .int .i64 fr, .int .i64 ql, .int .u64 s, .int .i64 sl] = W4 at h4 hT4 hG4 hHeld ⊢ | generalize wd.setRow w.heap.size #[.int .u64 m, .int .i64 ml, .int .u64 q, .int .i64 fr, .int .i64 ql, .int .u64 s, .int .i64 sl] = W4 at h4 hT4 hG4 ⊢
    have H4 := Lib.hid h4
    have HT4 := Lib.hid hT4
    have HG4 := Lib.hid hG4
    clear h4 hT4 hG4
    try simp only [Act.put, List.getElem_toArray, List.getElem_cons_succ, List.getElem_cons_zero, List.setIfInBounds_toArray, List.set_cons_zero, List.set_cons_succ]
    refine wpAnyH_take (i := 6) (v := ?_) rfl (by kernel_rfl) (by kernel_rfl) (by kernel_rfl) (fun _ _ _ h => h) (Or.inl ⟨by rfl, ?_⟩) (by assumption) ?_
    rotate_left
    · (intro w hSw; (try dsimp only at hSw); go_simp; try with_reducible rfl)
    try simp only [Act.put, List.getElem_toArray, List.getElem_cons_succ, List.getElem_cons_zero, List.setIfInBounds_toArray, List.set_cons_zero, List.set_cons_succ]
    refine wpAnyH_done (by kernel_rfl) ?_ _
    go_wp2
    obtain ⟨⟨e0, e1, e2, e3, e4, e5, e6⟩, f0, f1, f2, f3, f4, f5, f6⟩ := blk7 H4.out
    refine bodyPost_ret (v := .tuple #[.int .u64 c, .agg #[.int .u64 m, .int .i64 ml, .int .u64 q, .int .i64 fr, .int .i64 ql, .int .u64 s, .int .i64 sl], .bool true]) ?_ rfl ⟨rfl, HT4.out⟩
    simp [results, Tryd.results15, go_sem, e0, e1, e2, e3, e4, e5, e6]
end Hed
end Go.Proofs.YtmjdcpcndggflaaDoor
