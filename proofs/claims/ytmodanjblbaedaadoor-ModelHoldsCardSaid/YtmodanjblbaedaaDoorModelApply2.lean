/- An operation whole: Apply. -/
import Derived.Test.YtmodanjblbaedaaDoorModelApply
set_option linter.unusedVariables false
set_option linter.unusedSimpArgs false
namespace Go.Proofs.YtmodanjblbaedaaDoor
namespace Mdl
open Go.RowKit Go.Maps

theorem app_q {m : Mo} {c k a b2 : Int} (h : Ops.opT.rightB c k a b2 = true) (hc : 1 ≤ c ∧ c ≤ 3) : appOp m c k a b2 = ({ m with q := (queT m.q c a).1 }, (queT m.q c a).2) := by
  unfold appOp app
  rw [h, if_neg (by simp; omega), if_pos hc.2]
theorem app_d {m : Mo} {c k a b2 : Int} (h : Ops.opT.rightB c k a b2 = true) (hc : 4 ≤ c ∧ c ≤ 9) : appOp m c k a b2 = ({ m with d := (mapT m.d c k a b2).1 }, (mapT m.d c k a b2).2) := by
  unfold appOp app
  rw [h, if_neg (by simp; omega), if_neg (by omega), if_pos hc.2]
theorem app_s {m : Mo} {c k a b2 : Int} (h : Ops.opT.rightB c k a b2 = true) (hc : 10 ≤ c ∧ c ≤ 14) : appOp m c k a b2 = ({ m with s := (semT m.s c k a).1 }, (semT m.s c k a).2) := by
  unfold appOp app
  rw [h, if_neg (by simp; omega), if_neg (by omega), if_neg (by omega)]
theorem app_0 {m : Mo} {k a b2 : Int} : appOp m 0 k a b2 = (m, (1, 0)) := by
  unfold appOp app
  rw [if_pos (by simp)]
theorem app_wrong {m : Mo} {c k a b2 : Int} (h : Ops.opT.rightB c k a b2 = false) : appOp m c k a b2 = (m, (1, 0)) := by
  unfold appOp app
  rw [if_pos (Or.inl h)]

set_option maxRecDepth 10000 in
set_option maxHeartbeats 2000000 in
theorem apply_wrong {w : World} {b : Nat} {m : Mo} {F : List Nat} (h : MAt w b m F) (hk : Ops.Kn w) {c k a b2 : Int} (hw : Ops.opT.rightB c k a b2 = false) :
    Calls Tryd.prog 11 #[.pointer (some ⟨b, 0, none⟩), .agg #[.int .i64 c, .int .i64 k, .int .i64 a, .int .i64 b2]] w (MEnd w b F (appOp m c k a b2)) := by
  rw [app_wrong hw]
  have HG : Hid (∀ W, Frm.Turn [] w W → Calls Tryd.prog 28 #[.agg #[.int .i64 c, .int .i64 k, .int .i64 a, .int .i64 b2]] W fun e w' => e = .returned (.bool false) ∧ Frm.Turn [] W w') := Lib.hid (fun W hT => by rw [← hw]; exact Ops.right_any c k a b2 W (hk.turn hT))
  have HT := Lib.hid (fun o o' => ((Frm.Turn.refl [] w).alloc o).alloc o')
  have HB := Lib.hid (fun o => res_new2p w o)
  have H := Lib.hid h
  clear h hk hw
  go_enter Tryd.func11, Tryd.ntmps11
  go_wp2_with (first
    | (go_at_call 28; (with_reducible refine (HG.out _ (HT.out _ _)).mono ?_); rintro e w1 ⟨rfl, hT⟩; have HB1 := Lib.hid (hT.keep (HB.out _) (by simp)); have HT1 := Lib.hid ((HT.out _ _).trans hT (by simp)); clear hT)
    | (go_at_call 29; (with_reducible refine (none_any _).mono ?_); rintro e w2 ⟨rfl, hT⟩; have hk := hT.keep HB1.out (by simp); obtain ⟨⟨e0, e1⟩, g0, g1⟩ := blk2 hk; have HB2 := Lib.hid hk; clear hk; have HT2 := Lib.hid (HT1.out.trans hT (by simp)); clear hT))
  have r := blk2 (told_blk HB2.out (.int .i64 1) (.int .i64 0))
  refine bodyPost_ret (v := rv (1, 0)) (by simp [results, Tryd.results11, go_sem, r.1.1, r.1.2]) rfl ?_
  have hT : Frm.Turn [] w ((w2.setCell ⟨w.heap.size + 1, 0, none⟩ (.int .i64 1)).setCell ⟨w.heap.size + 1, 1, none⟩ (.int .i64 0)) := (HT2.out.setCell (Or.inr (by simp)) _).setCell (Or.inr (by simp)) _
  exact ⟨rfl, F, H.out.turn hT (by simp), hT.mono (by simp), fun k hk => Or.inl hk⟩

set_option maxRecDepth 10000 in
set_option maxHeartbeats 2000000 in
theorem apply_zero {w : World} {b : Nat} {m : Mo} {F : List Nat} (h : MAt w b m F) (hk : Ops.Kn w) {k a b2 : Int} (hw : Ops.opT.rightB 0 k a b2 = true) :
    Calls Tryd.prog 11 #[.pointer (some ⟨b, 0, none⟩), .agg #[.int .i64 0, .int .i64 k, .int .i64 a, .int .i64 b2]] w (MEnd w b F (appOp m 0 k a b2)) := by
  rw [app_0]
  have HG : Hid (∀ W, Frm.Turn [] w W → Calls Tryd.prog 28 #[.agg #[.int .i64 0, .int .i64 k, .int .i64 a, .int .i64 b2]] W fun e w' => e = .returned (.bool true) ∧ Frm.Turn [] W w') := Lib.hid (fun W hT => by rw [← hw]; exact Ops.right_any 0 k a b2 W (hk.turn hT))
  have HT := Lib.hid (fun o o' => ((Frm.Turn.refl [] w).alloc o).alloc o')
  have HB := Lib.hid (fun o => res_new2p w o)
  have HO : Hid (∀ o', ((w.alloc (opC 0 k a b2)).alloc o').heap[w.heap.size]? = some (opC 0 k a b2)) := Lib.hid (fun o' => ((Frm.Turn.refl [] _).alloc o').keep (World.alloc_heap_new w _) (by simp))
  have H := Lib.hid h
  clear h hk hw
  go_enter Tryd.func11, Tryd.ntmps11
  go_wp2_with (first
    | (go_at_call 28; (with_reducible refine (HG.out _ (HT.out _ _)).mono ?_); rintro e w1 ⟨rfl, hT⟩; obtain ⟨⟨d0, d1, d2, d3⟩, _⟩ := Ops.blk4 (hT.keep (HO.out _) (by simp)); have HB1 := Lib.hid (hT.keep (HB.out _) (by simp)); have HT1 := Lib.hid ((HT.out _ _).trans hT (by simp)); clear hT)
    | (go_at_call 29; (with_reducible refine (none_any _).mono ?_); rintro e w2 ⟨rfl, hT⟩; have hk := hT.keep HB1.out (by simp); obtain ⟨⟨e0, e1⟩, g0, g1⟩ := blk2 hk; have HB2 := Lib.hid hk; clear hk; have HT2 := Lib.hid (HT1.out.trans hT (by simp)); clear hT))
  have r := blk2 (told_blk HB2.out (.int .i64 1) (.int .i64 0))
  refine bodyPost_ret (v := rv (1, 0)) (by simp [results, Tryd.results11, go_sem, r.1.1, r.1.2]) rfl ?_
  have hT : Frm.Turn [] w ((w2.setCell ⟨w.heap.size + 1, 0, none⟩ (.int .i64 1)).setCell ⟨w.heap.size + 1, 1, none⟩ (.int .i64 0)) := (HT2.out.setCell (Or.inr (by simp)) _).setCell (Or.inr (by simp)) _
  exact ⟨rfl, F, H.out.turn hT (by simp), hT.mono (by simp), fun k hk => Or.inl hk⟩

set_option maxRecDepth 10000 in
set_option maxHeartbeats 4000000 in
theorem apply_queue {w : World} {b : Nat} {m : Mo} {F : List Nat} (h : MAt w b m F) (hk : Ops.Kn w) {c k a b2 : Int} (hw : Ops.opT.rightB c k a b2 = true) (hc : 1 ≤ c ∧ c ≤ 3) :
    Calls Tryd.prog 11 #[.pointer (some ⟨b, 0, none⟩), .agg #[.int .i64 c, .int .i64 k, .int .i64 a, .int .i64 b2]] w (MEnd w b F (appOp m c k a b2)) := by
  have hoo := (op_ok hw).1
  have HG : Hid (∀ W, Frm.Turn [] w W → Calls Tryd.prog 28 #[.agg #[.int .i64 c, .int .i64 k, .int .i64 a, .int .i64 b2]] W fun e w' => e = .returned (.bool true) ∧ Frm.Turn [] W w') := Lib.hid (fun W hT => by rw [← hw]; exact Ops.right_any c k a b2 W (hk.turn hT))
  have HC : Hid (∀ W, Frm.Turn [] w W → Calls Tryd.prog 30 #[.pointer (some ⟨b, 0, none⟩), .agg #[.int .i64 c, .int .i64 k, .int .i64 a, .int .i64 b2]] W (MEnd W b F (appOp m c k a b2))) := Lib.hid (fun W hT => by rw [app_q hw hc]; exact onQueue_any (h.step hT) hoo hc)
  have HT := Lib.hid (fun o o' => ((Frm.Turn.refl [] w).alloc o).alloc o')
  have HB := Lib.hid (fun o => res_new2p w o)
  have HO : Hid (∀ o', ((w.alloc (opC c k a b2)).alloc o').heap[w.heap.size]? = some (opC c k a b2)) := Lib.hid (fun o' => ((Frm.Turn.refl [] _).alloc o').keep (World.alloc_heap_new w _) (by simp))
  have HL := Lib.hid h.lt
  clear h hk hoo hw
  obtain ⟨z, hz⟩ : ∃ z, z = appOp m c k a b2 := ⟨_, rfl⟩
  rw [← hz] at HC ⊢
  clear hz
  obtain ⟨m', x, y⟩ := z
  have hcs : c = 1 ∨ c = 2 ∨ c = 3 := by omega
  clear hc
  rcases hcs with rfl | rfl | rfl
  all_goals
    go_enter Tryd.func11, Tryd.ntmps11
    go_wp2_with (first
      | (go_at_call 28; (with_reducible refine (HG.out _ (HT.out _ _)).mono ?_); rintro e w1 ⟨rfl, hT⟩; obtain ⟨⟨d0, d1, d2, d3⟩, _⟩ := Ops.blk4 (hT.keep (HO.out _) (by simp)); have HS : Hid (w.heap.size + 1 < w1.heap.size) := Lib.hid (by have := hT.size; simp at this; omega); have HB1 := Lib.hid (hT.keep (HB.out _) (by simp)); have HT1 := Lib.hid ((HT.out _ _).trans hT (by simp)); clear hT)
      | (go_at_call 30; (with_reducible refine (HC.out _ HT1.out).mono ?_); intro e w2 hE; obtain rfl := hE.1; have hk := hE.2.choose_spec.2.1.keep HB1.out (fun hm => by have := HL.out _ hm; omega); obtain ⟨⟨e0, e1⟩, g0, g1⟩ := blk2 hk; have HB2 := Lib.hid hk; clear hk; have HE := Lib.hid hE; clear hE))
    have r := blk2 (told_blk HB2.out (.int .i64 x) (.int .i64 y))
    exact bodyPost_ret (v := rv (x, y)) (by simp [results, Tryd.results11, go_sem, r.1.1, r.1.2]) rfl (mend_told HT1.out HE.out HL.out (by omega) HS.out _ _ rfl)

set_option maxRecDepth 10000 in
set_option maxHeartbeats 4000000 in
theorem apply_map {w : World} {b : Nat} {m : Mo} {F : List Nat} (h : MAt w b m F) (hk : Ops.Kn w) {c k a b2 : Int} (hw : Ops.opT.rightB c k a b2 = true) (hc : 4 ≤ c ∧ c ≤ 9) :
    Calls Tryd.prog 11 #[.pointer (some ⟨b, 0, none⟩), .agg #[.int .i64 c, .int .i64 k, .int .i64 a, .int .i64 b2]] w (MEnd w b F (appOp m c k a b2)) := by
  have hoo := (op_ok hw).1
  have HG : Hid (∀ W, Frm.Turn [] w W → Calls Tryd.prog 28 #[.agg #[.int .i64 c, .int .i64 k, .int .i64 a, .int .i64 b2]] W fun e w' => e = .returned (.bool true) ∧ Frm.Turn [] W w') := Lib.hid (fun W hT => by rw [← hw]; exact Ops.right_any c k a b2 W (hk.turn hT))
  have HC : Hid (∀ W, Frm.Turn [] w W → Calls Tryd.prog 31 #[.pointer (some ⟨b, 0, none⟩), .agg #[.int .i64 c, .int .i64 k, .int .i64 a, .int .i64 b2]] W (MEnd W b F (appOp m c k a b2))) := Lib.hid (fun W hT => by rw [app_d hw hc]; exact onMap_any (h.step hT) hoo hc)
  have HT := Lib.hid (fun o o' => ((Frm.Turn.refl [] w).alloc o).alloc o')
  have HB := Lib.hid (fun o => res_new2p w o)
  have HO : Hid (∀ o', ((w.alloc (opC c k a b2)).alloc o').heap[w.heap.size]? = some (opC c k a b2)) := Lib.hid (fun o' => ((Frm.Turn.refl [] _).alloc o').keep (World.alloc_heap_new w _) (by simp))
  have HL := Lib.hid h.lt
  clear h hk hoo hw
  obtain ⟨z, hz⟩ : ∃ z, z = appOp m c k a b2 := ⟨_, rfl⟩
  rw [← hz] at HC ⊢
  clear hz
  obtain ⟨m', x, y⟩ := z
  have hcs : c = 4 ∨ c = 5 ∨ c = 6 ∨ c = 7 ∨ c = 8 ∨ c = 9 := by omega
  clear hc
  rcases hcs with rfl | rfl | rfl | rfl | rfl | rfl
  all_goals
    go_enter Tryd.func11, Tryd.ntmps11
    go_wp2_with (first
      | (go_at_call 28; (with_reducible refine (HG.out _ (HT.out _ _)).mono ?_); rintro e w1 ⟨rfl, hT⟩; obtain ⟨⟨d0, d1, d2, d3⟩, _⟩ := Ops.blk4 (hT.keep (HO.out _) (by simp)); have HS : Hid (w.heap.size + 1 < w1.heap.size) := Lib.hid (by have := hT.size; simp at this; omega); have HB1 := Lib.hid (hT.keep (HB.out _) (by simp)); have HT1 := Lib.hid ((HT.out _ _).trans hT (by simp)); clear hT)
      | (go_at_call 31; (with_reducible refine (HC.out _ HT1.out).mono ?_); intro e w2 hE; obtain rfl := hE.1; have hk := hE.2.choose_spec.2.1.keep HB1.out (fun hm => by have := HL.out _ hm; omega); obtain ⟨⟨e0, e1⟩, g0, g1⟩ := blk2 hk; have HB2 := Lib.hid hk; clear hk; have HE := Lib.hid hE; clear hE))
    have r := blk2 (told_blk HB2.out (.int .i64 x) (.int .i64 y))
    exact bodyPost_ret (v := rv (x, y)) (by simp [results, Tryd.results11, go_sem, r.1.1, r.1.2]) rfl (mend_told HT1.out HE.out HL.out (by omega) HS.out _ _ rfl)

set_option maxRecDepth 10000 in
set_option maxHeartbeats 4000000 in
theorem apply_sems {w : World} {b : Nat} {m : Mo} {F : List Nat} (h : MAt w b m F) (hk : Ops.Kn w) {c k a b2 : Int} (hw : Ops.opT.rightB c k a b2 = true) (hc : 10 ≤ c ∧ c ≤ 14) :
    Calls Tryd.prog 11 #[.pointer (some ⟨b, 0, none⟩), .agg #[.int .i64 c, .int .i64 k, .int .i64 a, .int .i64 b2]] w (MEnd w b F (appOp m c k a b2)) := by
  have hoo := (op_ok hw).1
  have HG : Hid (∀ W, Frm.Turn [] w W → Calls Tryd.prog 28 #[.agg #[.int .i64 c, .int .i64 k, .int .i64 a, .int .i64 b2]] W fun e w' => e = .returned (.bool true) ∧ Frm.Turn [] W w') := Lib.hid (fun W hT => by rw [← hw]; exact Ops.right_any c k a b2 W (hk.turn hT))
  have HC : Hid (∀ W, Frm.Turn [] w W → Calls Tryd.prog 32 #[.pointer (some ⟨b, 0, none⟩), .agg #[.int .i64 c, .int .i64 k, .int .i64 a, .int .i64 b2]] W (MEnd W b F (appOp m c k a b2))) := Lib.hid (fun W hT => by rw [app_s hw hc]; exact onSems_any (h.step hT) hoo hc)
  have HT := Lib.hid (fun o o' => ((Frm.Turn.refl [] w).alloc o).alloc o')
  have HB := Lib.hid (fun o => res_new2p w o)
  have HO : Hid (∀ o', ((w.alloc (opC c k a b2)).alloc o').heap[w.heap.size]? = some (opC c k a b2)) := Lib.hid (fun o' => ((Frm.Turn.refl [] _).alloc o').keep (World.alloc_heap_new w _) (by simp))
  have HL := Lib.hid h.lt
  clear h hk hoo hw
  obtain ⟨z, hz⟩ : ∃ z, z = appOp m c k a b2 := ⟨_, rfl⟩
  rw [← hz] at HC ⊢
  clear hz
  obtain ⟨m', x, y⟩ := z
  have hcs : c = 10 ∨ c = 11 ∨ c = 12 ∨ c = 13 ∨ c = 14 := by omega
  clear hc
  rcases hcs with rfl | rfl | rfl | rfl | rfl
  all_goals
    go_enter Tryd.func11, Tryd.ntmps11
    go_wp2_with (first
      | (go_at_call 28; (with_reducible refine (HG.out _ (HT.out _ _)).mono ?_); rintro e w1 ⟨rfl, hT⟩; obtain ⟨⟨d0, d1, d2, d3⟩, _⟩ := Ops.blk4 (hT.keep (HO.out _) (by simp)); have HS : Hid (w.heap.size + 1 < w1.heap.size) := Lib.hid (by have := hT.size; simp at this; omega); have HB1 := Lib.hid (hT.keep (HB.out _) (by simp)); have HT1 := Lib.hid ((HT.out _ _).trans hT (by simp)); clear hT)
      | (go_at_call 32; (with_reducible refine (HC.out _ HT1.out).mono ?_); intro e w2 hE; obtain rfl := hE.1; have hk := hE.2.choose_spec.2.1.keep HB1.out (fun hm => by have := HL.out _ hm; omega); obtain ⟨⟨e0, e1⟩, g0, g1⟩ := blk2 hk; have HB2 := Lib.hid hk; clear hk; have HE := Lib.hid hE; clear hE))
    have r := blk2 (told_blk HB2.out (.int .i64 x) (.int .i64 y))
    exact bodyPost_ret (v := rv (x, y)) (by simp [results, Tryd.results11, go_sem, r.1.1, r.1.2]) rfl (mend_told HT1.out HE.out HL.out (by omega) HS.out _ _ rfl)

theorem apply_any {w : World} {b : Nat} {m : Mo} {F : List Nat} (h : MAt w b m F) (hk : Ops.Kn w) (c k a b2 : Int) :
    Calls Tryd.prog 11 #[.pointer (some ⟨b, 0, none⟩), .agg #[.int .i64 c, .int .i64 k, .int .i64 a, .int .i64 b2]] w (MEnd w b F (appOp m c k a b2)) := by
  cases hw : Ops.opT.rightB c k a b2 with
  | false => exact apply_wrong h hk hw
  | true =>
    obtain ⟨_, c0, c1⟩ := op_ok hw
    have hc : c = 0 ∨ (1 ≤ c ∧ c ≤ 3) ∨ (4 ≤ c ∧ c ≤ 9) ∨ (10 ≤ c ∧ c ≤ 14) := by omega
    rcases hc with rfl | hc | hc | hc
    · exact apply_zero h hk hw
    · exact apply_queue h hk hw hc
    · exact apply_map h hk hw hc
    · exact apply_sems h hk hw hc
end Mdl
end Go.Proofs.YtmodanjblbaedaaDoor
