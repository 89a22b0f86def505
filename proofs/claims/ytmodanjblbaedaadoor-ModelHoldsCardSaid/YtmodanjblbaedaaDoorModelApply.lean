/- What is done to a model's queue by its operation; an operation whole: Apply. -/
import Derived.Test.YtmodanjblbaedaaDoorModelMap2
import Derived.Test.YtmodanjblbaedaaDoorModelSem
import Derived.Test.YtmodanjblbaedaaDoorModelRef5
set_option linter.unusedVariables false
set_option linter.unusedSimpArgs false
namespace Go.Proofs.YtmodanjblbaedaaDoor
namespace Mdl
open Go.RowKit Go.Maps

/-- Behind a call upon a model, and its response told to a block of one's own. -/
theorem mend_told {w W w1 : World} {b : Nat} {F : List Nat} {z : Mo × Rs} {v : Value} (hT : Frm.Turn [] w W) (h : MEnd W b F z (.returned v) w1) (hF : ∀ k, k ∈ F → k < w.heap.size) {n : Nat} (hn : w.heap.size ≤ n) (hr : n < W.heap.size) (x y : Value) {u : Value} (hu : u = rv z.2) :
    MEnd w b F z (.returned u) ((w1.setCell ⟨n, 0, none⟩ x).setCell ⟨n, 1, none⟩ y) := by
  obtain ⟨_, F', hM, hT1, hN⟩ := h
  have TR : Frm.Turn [n] w1 ((w1.setCell ⟨n, 0, none⟩ x).setCell ⟨n, 1, none⟩ y) := ((Frm.Turn.refl _ _).setCell (Or.inl (by simp)) _).setCell (Or.inl (by simp)) _
  refine ⟨by rw [hu], F', hM.turn TR (fun k hk hm => ?_), ((((hT.mono (by simp)).trans hT1 (fun k hk => Or.inl hk))).setCell (Or.inr hn) _).setCell (Or.inr hn) _, fun k hk => ?_⟩
  · simp at hm
    subst hm
    rcases hN _ hk with h1 | h1
    · have := hF _ h1; omega
    · omega
  · rcases hN k hk with h1 | h1
    · exact Or.inl h1
    · exact Or.inr (by have := hT.size; omega)
abbrev QueEnd (w : World) (b : Nat) (F : List Nat) (m : Mo) (c a : Int) : Ending → World → Prop := MEnd w b F ({ m with q := (queT m.q c a).1 }, (queT m.q c a).2)

set_option maxRecDepth 10000 in
set_option maxHeartbeats 2000000 in
theorem onQueue_in {w : World} {b : Nat} {m : Mo} {F : List Nat} (h : MAt w b m F) {k a b2 : Int} (ho : OpOk k a b2) :
    Calls Tryd.prog 30 #[.pointer (some ⟨b, 0, none⟩), .agg #[.int .i64 1, .int .i64 k, .int .i64 a, .int .i64 b2]] w (QueEnd w b F m 1 a) := by
  have HG := Lib.hid (fun W (hT : Frm.Turn [] w W) => enqueue_any (h.step hT) ho.a)
  have HT := Lib.hid (fun o o' => ((Frm.Turn.refl [] w).alloc o).alloc o')
  have HB := Lib.hid (fun o => res_new2p w o)
  have HL := Lib.hid h.lt
  obtain ⟨z, hz⟩ : ∃ z : Mo × Rs, z = (({ m with q := (queT m.q 1 a).1 }, (queT m.q 1 a).2) : Mo × Rs) := ⟨_, rfl⟩
  unfold QueEnd
  rw [← hz] at HG ⊢
  clear hz h ho
  obtain ⟨m', x, y⟩ := z
  go_enter Tryd.func30, Tryd.ntmps30
  go_wp2_with (first
    | (go_at_call 42; (with_reducible refine (HG.out _ (HT.out _ _)).mono ?_); intro e w1 hE; obtain rfl := hE.1; have hk := hE.2.choose_spec.2.1.keep (HB.out _) (fun hm => by have := HL.out _ hm; omega); obtain ⟨⟨e0, e1⟩, g0, g1⟩ := blk2 hk; have HB1 := Lib.hid hk; clear hk; have HE := Lib.hid hE; clear hE))
  have r := blk2 (told_blk HB1.out (.int .i64 x) (.int .i64 y))
  exact bodyPost_ret (v := rv (x, y)) (by simp [results, Tryd.results30, go_sem, r.1.1, r.1.2]) rfl (mend_told (HT.out _ _) HE.out HL.out (by omega) (by simp) _ _ rfl)

set_option maxRecDepth 10000 in
set_option maxHeartbeats 2000000 in
theorem onQueue_out {w : World} {b : Nat} {m : Mo} {F : List Nat} (h : MAt w b m F) {k a b2 : Int} (ho : OpOk k a b2) :
    Calls Tryd.prog 30 #[.pointer (some ⟨b, 0, none⟩), .agg #[.int .i64 2, .int .i64 k, .int .i64 a, .int .i64 b2]] w (QueEnd w b F m 2 a) := by
  have HG := Lib.hid (fun W (hT : Frm.Turn [] w W) => dequeue_any (h.step hT) a)
  have HT := Lib.hid (fun o o' => ((Frm.Turn.refl [] w).alloc o).alloc o')
  have HB := Lib.hid (fun o => res_new2p w o)
  have HL := Lib.hid h.lt
  obtain ⟨z, hz⟩ : ∃ z : Mo × Rs, z = (({ m with q := (queT m.q 2 a).1 }, (queT m.q 2 a).2) : Mo × Rs) := ⟨_, rfl⟩
  unfold QueEnd
  rw [← hz] at HG ⊢
  clear hz h ho
  obtain ⟨m', x, y⟩ := z
  go_enter Tryd.func30, Tryd.ntmps30
  go_wp2_with (first
    | (go_at_call 43; (with_reducible refine (HG.out _ (HT.out _ _)).mono ?_); intro e w1 hE; obtain rfl := hE.1; have hk := hE.2.choose_spec.2.1.keep (HB.out _) (fun hm => by have := HL.out _ hm; omega); obtain ⟨⟨e0, e1⟩, g0, g1⟩ := blk2 hk; have HB1 := Lib.hid hk; clear hk; have HE := Lib.hid hE; clear hE))
  have r := blk2 (told_blk HB1.out (.int .i64 x) (.int .i64 y))
  exact bodyPost_ret (v := rv (x, y)) (by simp [results, Tryd.results30, go_sem, r.1.1, r.1.2]) rfl (mend_told (HT.out _ _) HE.out HL.out (by omega) (by simp) _ _ rfl)

set_option maxRecDepth 10000 in
set_option maxHeartbeats 2000000 in
theorem onQueue_len {w : World} {b : Nat} {m : Mo} {F : List Nat} (h : MAt w b m F) {k a b2 : Int} (ho : OpOk k a b2) :
    Calls Tryd.prog 30 #[.pointer (some ⟨b, 0, none⟩), .agg #[.int .i64 3, .int .i64 k, .int .i64 a, .int .i64 b2]] w (QueEnd w b F m 3 a) := by
  obtain ⟨qv, pd, ps, rfl, h⟩ := h
  obtain ⟨ao, c, rfl⟩ := h.q.form
  have hbl := h.blt
  have c0 := h.c0
  have HT := Lib.hid (fun o o' => ((Frm.Turn.refl [] w).alloc o).alloc o')
  have HB := Lib.hid (fun o => res_new2p w o)
  have H := Lib.hid h
  have HR : Hid ((({ m with q := (queT m.q 3 a).1 }, (queT m.q 3 a).2) : Mo × Rs) = ({ m with d := m.d, s := m.s }, ((0, (m.q.length : Int)) : Rs))) := Lib.hid rfl
  clear h ho
  go_enter Tryd.func30, Tryd.ntmps30
  go_wp2_with (first
    | (go_at_call 44; (with_reducible refine (done_any _ _).mono ?_); rintro e w1 ⟨rfl, hT⟩; have hk := hT.keep (HB.out _) (by simp); obtain ⟨⟨e0, e1⟩, g0, g1⟩ := blk2 hk; have HB1 := Lib.hid hk; clear hk; have HT1 := Lib.hid ((HT.out _ _).trans hT (by simp)); clear hT))
  have r := blk2 (told_blk HB1.out (.int .i64 0) (.int .i64 (m.q.length : Int)))
  refine bodyPost_ret (v := rv (0, (m.q.length : Int))) (by simp [results, Tryd.results30, go_sem, r.1.1, r.1.2]) rfl ?_
  exact fin_t H.out (H.out.d.step HT1.out) (H.out.s.step HT1.out) (HT1.out.mono (by simp)) (HT1.out.keep H.out.body (by simp)) (.inl rfl) (.inl rfl) (.inl rfl) H.out.ok _ _ HR.out
theorem onQueue_any {w : World} {b : Nat} {m : Mo} {F : List Nat} (h : MAt w b m F) {c k a b2 : Int} (ho : OpOk k a b2) (hc : 1 ≤ c ∧ c ≤ 3) :
    Calls Tryd.prog 30 #[.pointer (some ⟨b, 0, none⟩), .agg #[.int .i64 c, .int .i64 k, .int .i64 a, .int .i64 b2]] w (QueEnd w b F m c a) := by
  have : c = 1 ∨ c = 2 ∨ c = 3 := by omega
  rcases this with rfl | rfl | rfl
  · exact onQueue_in h ho
  · exact onQueue_out h ho
  · exact onQueue_len h ho

/-- An operation's answer, whatever it is. -/
def appOp (m : Mo) (c k a b2 : Int) : Mo × Rs := app (Ops.opT.rightB c k a b2) m c k a b2
theorem op_ok {c k a b2 : Int} (h : Ops.opT.rightB c k a b2 = true) : OpOk k a b2 ∧ 0 ≤ c ∧ c ≤ 14 := by
  obtain ⟨h1, h2, h3, h4⟩ := Ops.op_range h
  exact ⟨⟨h2, h3, h4⟩, h1⟩
theorem appOp_ok {m : Mo} (h : MOk m) (c k a b2 : Int) : MOk (appOp m c k a b2).1 := app_ok h (fun e => (op_ok e).1)
end Mdl
end Go.Proofs.YtmodanjblbaedaaDoor
