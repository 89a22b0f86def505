/- What is done to a model's queue: enqueue, dequeue. -/
import Derived.Test.YtmodanjblbaedaaDoorModelQueue
import Derived.Outline
set_option linter.unusedVariables false
set_option linter.unusedSimpArgs false
namespace Go.Proofs.YtmodanjblbaedaaDoor
namespace Mdl
open Go.RowKit Go.Maps

theorem MIn.blt {w : World} {b : Nat} {m : Mo} {qv : Value} {pd ps : Option Nat} (h : MIn w b m qv pd ps) : b < w.heap.size := (Array.getElem?_eq_some_iff.1 h.body).1
theorem MIn.c0 {w : World} {b : Nat} {m : Mo} {qv : Value} {pd ps : Option Nat} (h : MIn w b m qv pd ps) : w.cell? ⟨b, 0, none⟩ = some qv := (Frm.cell_row w b 0 _ _ _ h.body).trans rfl
theorem MIn.f0 {w : World} {b : Nat} {m : Mo} {qv : Value} {pd ps : Option Nat} (h : MIn w b m qv pd ps) : w.frozen? ⟨b, 0, none⟩ = false := Frm.frozen_row w b 0 _ _ h.body
theorem MIn.qne {w : World} {b : Nat} {m : Mo} {qv : Value} {pd ps : Option Nat} (h : MIn w b m qv pd ps) : b ∉ qv.ownBlock.toList := by
  have := h.apart; simp only [foot, List.nodup_cons, List.mem_append, not_or] at this; exact this.1.1
/-- A queue's slice put in the place of another one. -/
theorem MIn.setq {w w1 w2 : World} {b : Nat} {m : Mo} {qv : Value} {pd ps : Option Nat} (h : MIn w b m qv pd ps) {v : Value} {q : List Int} (hq : QAt w1 v q) (hT : Frm.Turn qv.ownBlock.toList w w1) (hn : v.ownBlock = qv.ownBlock ∨ v.ownBlock = none ∨ ∃ g, v.ownBlock = some g ∧ w.heap.size ≤ g)
    (hok : MOk { m with q := q }) (hb : w2.heap[b]? = some (.cells #[v, .map pd, .map ps] 59 (0, 0))) {G : List Nat} (hT2 : Frm.Turn (b :: G) w1 w2) (hG : ∀ k, k ∈ G → w.heap.size ≤ k) (hv : ∀ k, v.ownBlock = some k → k ∉ G) : MIn w2 b { m with q := q } v pd ps := by
  have hlt := h.lt
  have hap := h.apart
  simp only [foot, List.nodup_cons, List.mem_append, not_or, List.nodup_append, Option.mem_toList] at hap
  have hsz := hT.size
  refine ⟨hok, hb, hq.turn hT2 (fun k hk => ?_), (h.d.turn hT (fun k hk => ?_)).turn hT2 (fun k hk => ?_), (h.s.turn hT (fun k hk => ?_)).turn hT2 (fun k hk => ?_), ?_⟩
  · intro hm
    rcases List.mem_cons.1 hm with rfl | hm
    · rcases hn with e | e | ⟨g, e, hg⟩
      · rw [e] at hk; exact hap.1.1 hk
      · rw [e] at hk; cases hk
      · rw [e] at hk; cases hk; have := h.blt; omega
    · exact hv k hk hm
  · intro hm; exact hap.2.2.2 k (by simpa using hm) k (Or.inl hk) rfl
  · have h1 := h.d.lt k hk
    intro hm
    rcases List.mem_cons.1 hm with rfl | hm
    · exact hap.1.2.1 hk
    · have := hG k hm; omega
  · intro hm; exact hap.2.2.2 k (by simpa using hm) k (Or.inr hk) rfl
  · have h1 := h.s.lt k hk
    intro hm
    rcases List.mem_cons.1 hm with rfl | hm
    · exact hap.1.2.2 hk
    · have := hG k hm; omega
  · simp only [foot, List.nodup_cons, List.mem_append, not_or, List.nodup_append, Option.mem_toList]
    refine ⟨⟨?_, hap.1.2⟩, by cases v.ownBlock <;> simp, hap.2.2.1, ?_⟩
    · rcases hn with e | e | ⟨g, e, hg⟩
      · rw [e]; exact hap.1.1
      · rw [e]; simp
      · rw [e]; intro h2; cases h2; have := h.blt; omega
    · rcases hn with e | e | ⟨g, e, hg⟩
      · rw [e]; exact hap.2.2.2
      · rw [e]; simp
      · intro x hx y hy exy
        rw [e] at hx; cases hx
        have : y < w.heap.size := by
          rcases hy with hy | hy
          · exact h.d.lt y hy
          · exact h.s.lt y hy
        omega

set_option maxHeartbeats 2000000 in
theorem enqueue_full {w : World} {b : Nat} {m : Mo} {F : List Nat} (h : MAt w b m F) {a : Int} (hf : 256 ≤ m.q.length) :
    Calls Tryd.prog 42 #[.pointer (some ⟨b, 0, none⟩), .int .i64 a] w (MEnd w b F ({ m with q := (queT m.q 1 a).1 }, (queT m.q 1 a).2)) := by
  obtain ⟨qv, pd, ps, rfl, h⟩ := h
  obtain ⟨ao, c, rfl⟩ := h.q.form
  have hbl := h.blt
  have c0 := h.c0
  have HR : Hid (queT m.q 1 a = (m.q, (2, 0))) := Lib.hid (by unfold queT; rw [if_pos rfl, if_pos hf])
  have H := Lib.hid h
  have hl0 : m.q.length ≤ 256 := h.ok.few
  have hd : (m.q.length : Int) ≥ 256 := by omega
  clear h
  go_enter Tryd.func42, Tryd.ntmps42
  go_wp2
  refine bodyPost_ret (v := rv (2, 0)) (by simp [results, Tryd.results42, go_sem]) rfl ?_
  rw [HR.out]
  have hT : Frm.Turn [] w (w.alloc (.cells #[.int .i64 2, .int .i64 0] 40)) := (Frm.Turn.refl _ _).alloc _
  exact ⟨rfl, _, ⟨_, _, _, rfl, H.out.turn hT (by simp)⟩, hT.mono (by simp), fun k hk => Or.inl hk⟩

set_option maxHeartbeats 2000000 in
theorem enqueue_room {w : World} {b : Nat} {m : Mo} {F : List Nat} (h : MAt w b m F) {a : Int} (ha : 0 ≤ a ∧ a ≤ 1023) (hf : m.q.length < 256) :
    Calls Tryd.prog 42 #[.pointer (some ⟨b, 0, none⟩), .int .i64 a] w (MEnd w b F ({ m with q := (queT m.q 1 a).1 }, (queT m.q 1 a).2)) := by
  obtain ⟨qv, pd, ps, rfl, h⟩ := h
  obtain ⟨ao, c, rfl⟩ := h.q.form
  have hbl := h.blt
  have c0 := h.c0
  have HR : Hid (queT m.q 1 a = (m.q ++ [a], (0, (m.q.length : Int) + 1))) := Lib.hid (by unfold queT; rw [if_pos rfl, if_neg (by omega)])
  have HOK : Hid (MOk { m with q := m.q ++ [a] }) := Lib.hid (by
    have := app_ok h.ok (right := true) (c := 1) (k := 0) (a := a) (b := 0) (fun _ => ⟨by omega, ha, by omega⟩)
    unfold app at this
    rw [if_neg (by simp), if_pos (by omega), HR.out] at this
    exact this)
  have H := Lib.hid h
  have HBL := Lib.hid hbl
  have HQ := Lib.hid (fun W (hT : Frm.Turn [] w W) => h.q.step hT)
  have HT := Lib.hid (fun o o' => ((Frm.Turn.refl [] w).alloc o).alloc o')
  have HB := Lib.hid (fun o' => ((Frm.Turn.refl [] (w.alloc res0)).alloc o').keep (res_new w) (by simp))
  have hd : ¬ (m.q.length : Int) ≥ 256 := by omega
  have HN := Lib.hid (show m.q.length ≤ 300 by omega)
  clear h
  go_enter Tryd.func42, Tryd.ntmps42
  go_wp2_with (first
    | (at_builtin; refine wpList_push _ rfl _ _ rfl (HQ.out _ (HT.out _ _)) a HN.out _ _ 1 rfl rfl (World.cell?_alloc_at _ _ _ _ (by simp)) ?_; intro ao' c' w2 hq2 hT2 hn2; have hk2 := hT2.keep ((HT.out _ _).keep H.out.body (by simp)) H.out.qne; have c2 := (Frm.cell_row w2 b 0 _ _ _ hk2).trans rfl; have f2 := Frm.frozen_row w2 b 0 _ _ hk2; have HK2 := Lib.hid (Frm.heap_set w2 b 0 _ _ _ (.slice ao' (m.q.length + 1) c') hk2); have HB2 := Lib.hid (hT2.keep (HB.out _) (fun hm => by have := H.out.q.lt _ (by simpa using hm); omega)); clear hk2; have HQ2 := Lib.hid hq2; have HT2 := Lib.hid (((HT.out _ _).mono (by simp)).trans hT2 (fun k hk => Or.inl hk)); have HN2 := Lib.hid hn2; clear hq2 hT2 hn2)
    | (go_at_call 44; (with_reducible refine (done_any _ _).mono ?_); rintro e w1 ⟨rfl, hT⟩; have hB3 := hT.keep (((Frm.Turn.refl [b] w2).setCell (Or.inl (by simp)) _).keep HB2.out (by simp; have := HBL.out; omega)) (by simp); obtain ⟨⟨e0, e1⟩, g0, g1⟩ := blk2 hB3; have HB3 := Lib.hid hB3; have HK3 := Lib.hid (hT.keep HK2.out (by simp)); have HT3 := Lib.hid (((Frm.Turn.refl [b] w2).setCell (Or.inl (by simp)) _).trans hT (by simp)); clear hT hB3))
  have r := blk2 (told_blk HB3.out (.int .i64 0) (.int .i64 ((m.q.length : Int) + 1)))
  refine bodyPost_ret (v := rv (0, (m.q.length : Int) + 1)) (by simp [results, Tryd.results42, go_sem, r.1.1, r.1.2]) rfl ?_
  rw [HR.out]
  have hbl := HBL.out
  have T3 : Frm.Turn (b :: [w.heap.size]) w2 ((w1.setCell ⟨w.heap.size, 0, none⟩ (.int .i64 0)).setCell ⟨w.heap.size, 1, none⟩ (.int .i64 ((m.q.length : Int) + 1))) := ((HT3.out.mono (by simp)).setCell (Or.inl (by simp)) _).setCell (Or.inl (by simp)) _
  have TR : Frm.Turn [w.heap.size] w1 ((w1.setCell ⟨w.heap.size, 0, none⟩ (.int .i64 0)).setCell ⟨w.heap.size, 1, none⟩ (.int .i64 ((m.q.length : Int) + 1))) := ((Frm.Turn.refl _ _).setCell (Or.inl (by simp)) _).setCell (Or.inl (by simp)) _
  have hn2 : (Value.slice ao' (m.q.length + 1) c').ownBlock = (Value.slice ao m.q.length c).ownBlock ∨ ∃ g, (Value.slice ao' (m.q.length + 1) c').ownBlock = some g ∧ w.heap.size + 1 ≤ g := HN2.out.imp id (fun ⟨g, e, hg⟩ => ⟨g, e, by simp at hg; omega⟩)
  have hM := H.out.setq HQ2.out HT2.out (hn2.imp id (fun ⟨g, e, hg⟩ => Or.inr ⟨g, e, by omega⟩)) HOK.out (TR.keep HK3.out (by simp; omega)) T3 (by simp) (fun k hk => by
    rcases hn2 with e | ⟨g, e, hg⟩
    · rw [e] at hk; have := H.out.q.lt k hk; simp; omega
    · rw [e] at hk; cases hk; simp; omega)
  refine ⟨rfl, _, ⟨_, pd, ps, rfl, hM⟩, (HT2.out.mono (fun k hk => by simp [foot] at hk ⊢; simp [hk])).trans T3 (fun k hk => ?_), fun k hk => ?_⟩
  · simp at hk
    rcases hk with rfl | rfl
    · simp [foot]
    · exact Or.inr (Nat.le_refl _)
  · simp only [foot, List.mem_cons, List.mem_append, Option.mem_toList] at hk ⊢
    rcases hk with rfl | hk | hk | hk
    · exact Or.inl (Or.inl rfl)
    · rcases hn2 with e | ⟨g, e, hg⟩
      · rw [e] at hk; exact Or.inl (Or.inr (Or.inl hk))
      · rw [e] at hk; cases hk; exact Or.inr (by omega)
    · exact Or.inl (Or.inr (Or.inr (Or.inl hk)))
    · exact Or.inl (Or.inr (Or.inr (Or.inr hk)))

set_option maxHeartbeats 2000000 in
theorem dequeue_none {w : World} {b : Nat} {m : Mo} {F : List Nat} (h : MAt w b m F) (hf : m.q = []) :
    Calls Tryd.prog 43 #[.pointer (some ⟨b, 0, none⟩)] w (MEnd w b F ({ m with q := (queT m.q 2 0).1 }, (queT m.q 2 0).2)) := by
  obtain ⟨qv, pd, ps, rfl, h⟩ := h
  obtain ⟨ao, c, rfl⟩ := h.q.form
  have hbl := h.blt
  have c0 := h.c0
  have hl : m.q.length = 0 := by rw [hf]; rfl
  have HR : Hid (({ m with q := (queT m.q 2 0).1 }, (queT m.q 2 0).2) = (m, ((1, 0) : Rs))) := Lib.hid (by cases m; simp only at hf; subst hf; rfl)
  have H := Lib.hid h
  have HB := Lib.hid (res_new w)
  have HT := Lib.hid (fun o => (Frm.Turn.refl [] w).alloc o)
  rw [hl] at c0
  clear h hf hl
  go_enter Tryd.func43, Tryd.ntmps43
  go_wp2_with (first
    | (go_at_call 29; (with_reducible refine (none_any _).mono ?_); rintro e w1 ⟨rfl, hT⟩; have hk := hT.keep HB.out (by simp); obtain ⟨⟨c0, c1⟩, f0, f1⟩ := blk2 hk; have HB1 := Lib.hid hk; clear hk; have HT1 := Lib.hid ((HT.out _).trans hT (by simp)); clear hT))
  have r := blk2 (told_blk HB1.out (.int .i64 1) (.int .i64 0))
  refine bodyPost_ret (v := rv (1, 0)) (by simp [results, Tryd.results43, go_sem, r.1.1, r.1.2]) rfl ?_
  rw [HR.out]
  have hT := told HT1.out (Nat.le_refl _) (.int .i64 1) (.int .i64 0)
  exact ⟨by first | rfl | trivial, _, ⟨_, _, _, rfl, H.out.turn hT (by simp)⟩, hT.mono (by simp), fun k hk => Or.inl hk⟩

/-- The slice behind its first value. -/
theorem QAt.tail {w : World} {g off n cap : Nat} {x : Int} {r : List Int} (h : QAt w (.slice (some ⟨g, off, none⟩) n cap) (x :: r)) :
    n = r.length + 1 ∧ n ≤ cap ∧ cap ≤ maxLen ∧ w.cell? ⟨g, off, none⟩ = some (.int .i64 x) ∧ (cap = 1 → QAt w (.slice (some ⟨g, off, none⟩) 0 0) r) ∧ (1 < cap → QAt w (.slice (some ⟨g, off + 1, none⟩) (n - 1) (cap - 1)) r) := by
  rcases h with ⟨h, _⟩ | ⟨g', off', cap', cur, e, hg, hc, hs, hm, hx⟩
  · cases h
  · cases e
    simp only [List.length_cons] at hc ⊢
    refine ⟨by first | rfl | trivial, hc, hm, ?_, fun e1 => ?_, fun e1 => ?_⟩
    · rw [Frm.cell_row w g _ cur _ _ hg]; simpa using hx 0 x rfl
    · have hr : r = [] := List.eq_nil_of_length_eq_zero (by omega)
      subst hr
      exact .inr ⟨g, off, 0, cur, rfl, hg, Nat.le_refl _, by omega, by omega, fun j x hj => by simp at hj⟩
    · refine .inr ⟨g, off + 1, cap - 1, cur, by simp, hg, by omega, by omega, by omega, fun j x hj => ?_⟩
      have := hx (j + 1) x (by simpa using hj)
      rwa [show off + (j + 1) = off + 1 + j by omega] at this

structure DeqW (w : World) (b : Nat) (v : Value) (pd ps : Option Nat) (W : World) : Prop where
  body : W.heap[b]? = some (.cells #[v, .map pd, .map ps] 59 (0, 0))
  res : W.heap[w.heap.size]? = some (.cells #[.int .i64 0, .int .i64 0] 40 (0, 0))
  turn : Frm.Turn [b] w W
theorem deq_w {w : World} {b : Nat} {qv : Value} {pd ps : Option Nat} (hb : w.heap[b]? = some (.cells #[qv, .map pd, .map ps] 59 (0, 0))) (v : Value) : DeqW w b v pd ps ((w.setCell ⟨b, 0, none⟩ v).alloc res0) := by
  have T1 : Frm.Turn [b] w (w.setCell ⟨b, 0, none⟩ v) := (Frm.Turn.refl _ _).setCell (Or.inl (by simp)) _
  have s1 : (w.setCell ⟨b, 0, none⟩ v).heap.size = w.heap.size := by simp
  refine ⟨((Frm.Turn.refl [] _).alloc _).keep (Frm.heap_set w b 0 _ _ _ v hb) (by simp), ?_, T1.alloc _⟩
  have := res_new (w.setCell ⟨b, 0, none⟩ v)
  rwa [s1] at this

theorem deq_end {w : World} {b : Nat} {m : Mo} {qv : Value} {pd ps : Option Nat} (h : MIn w b m qv pd ps) {v : Value} {q : List Int} (hq : QAt w v q) (hv : v.ownBlock = qv.ownBlock) (hok : MOk { m with q := q }) {w1 : World} (hT : Frm.Turn [] ((w.setCell ⟨b, 0, none⟩ v).alloc res0) w1) (x y : Value) {z : Mo × Rs} {r : Rs} (hz : z = ({ m with q := q }, r)) :
    MEnd w b (foot b qv pd ps) z (.returned (rv r)) ((w1.setCell ⟨w.heap.size, 0, none⟩ x).setCell ⟨w.heap.size, 1, none⟩ y) := by
  subst hz
  have HW := deq_w h.body v
  have hbl := h.blt
  have TR : Frm.Turn [w.heap.size] w1 ((w1.setCell ⟨w.heap.size, 0, none⟩ x).setCell ⟨w.heap.size, 1, none⟩ y) := ((Frm.Turn.refl _ _).setCell (Or.inl (by simp)) _).setCell (Or.inl (by simp)) _
  have T1 : Frm.Turn [b] w ((w1.setCell ⟨w.heap.size, 0, none⟩ x).setCell ⟨w.heap.size, 1, none⟩ y) := ((HW.turn.trans hT (by simp)).setCell (Or.inr (Nat.le_refl _)) _).setCell (Or.inr (Nat.le_refl _)) _
  have hM := h.setq hq (Frm.Turn.refl _ _) (Or.inl hv) hok (TR.keep (hT.keep HW.body (by simp)) (by simp; omega)) (T1.mono (G := [b]) (by simp)) (by simp) (by simp)
  refine ⟨rfl, _, ⟨_, pd, ps, rfl, hM⟩, T1.mono (fun k hk => by simp at hk; subst hk; simp [foot]), fun k hk => Or.inl ?_⟩
  simp only [foot, hv] at hk ⊢
  exact hk

set_option maxHeartbeats 2000000 in
theorem dequeue_some {w : World} {b : Nat} {m : Mo} {F : List Nat} (h : MAt w b m F) {x : Int} {r : List Int} (hf : m.q = x :: r) :
    Calls Tryd.prog 43 #[.pointer (some ⟨b, 0, none⟩)] w (MEnd w b F ({ m with q := (queT m.q 2 0).1 }, (queT m.q 2 0).2)) := by
  obtain ⟨qv, pd, ps, rfl, h⟩ := h
  have hq0 := h.q
  rw [hf] at hq0
  obtain ⟨g, off, n, c, rfl⟩ : ∃ g off n c, qv = .slice (some ⟨g, off, none⟩) n c := by
    rcases hq0 with ⟨_, e⟩ | ⟨g, off, cap, cur, rfl, _⟩
    · cases e
    · exact ⟨_, _, _, _, rfl⟩
  obtain ⟨rfl, hnc, hcm, cx, ht1, ht2⟩ := hq0.tail
  rw [Nat.add_sub_cancel] at ht2
  have hbl := h.blt
  have c0 := h.c0
  have f0 := h.f0
  have HR : Hid (({ m with q := (queT m.q 2 0).1 }, (queT m.q 2 0).2) = (({ m with q := r } : Mo), ((0, x) : Rs))) := Lib.hid (by rw [hf]; rfl)
  have HOK : Hid (MOk { m with q := r }) := Lib.hid (by
    have := app_ok h.ok (right := true) (c := 2) (k := 0) (a := 0) (b := 0) (fun _ => ⟨by omega, by omega, by omega⟩)
    unfold app at this
    rw [if_neg (by simp), if_pos (by omega), hf] at this
    exact this)
  have H := Lib.hid h
  have HBL := Lib.hid hbl
  have HGL : Hid (g < w.heap.size) := Lib.hid (h.q.lt g rfl)
  have HB := Lib.hid (res_new w)
  have HT := Lib.hid (fun o => (Frm.Turn.refl [] w).alloc o)
  have hgl := HGL.out
  have h1 : (((r.length + 1 : Nat) : Int) == 0) = false := by simp; omega
  unfold maxLen at hcm
  have h2 : (0 : Int) < ((r.length + 1 : Nat) : Int) := by omega
  have h3 : (1 : Int) ≤ ((r.length + 1 : Nat) : Int) := by omega
  have hcc : c = 1 ∨ 1 < c := by omega
  clear h hf hq0
  rcases hcc with hc | hc
  · have HQ := Lib.hid (ht1 hc)
    have HW := Lib.hid (deq_w H.out.body (.slice (some ⟨g, off, none⟩) 0 0))
    subst hc
    obtain rfl : r = [] := List.eq_nil_of_length_eq_zero (by omega)
    clear ht1 ht2
    go_enter Tryd.func43, Tryd.ntmps43
    go_wp2_with (first
      | (go_at_call 44; (with_reducible refine (done_any _ _).mono ?_); rintro e w1 ⟨rfl, hT⟩; have hk := hT.keep HW.out.res (by simp); obtain ⟨⟨e0, e1⟩, g0, g1⟩ := blk2 hk; have HB1 := Lib.hid hk; clear hk; have HT1 := Lib.hid hT; clear hT))
    have r := blk2 (told_blk HB1.out (.int .i64 0) (.int .i64 x))
    exact bodyPost_ret (v := rv (0, x)) (by simp [results, Tryd.results43, go_sem, r.1.1, r.1.2]) rfl (deq_end H.out HQ.out rfl HOK.out HT1.out _ _ HR.out)
  · have HQ := Lib.hid (ht2 hc)
    have HW := Lib.hid (deq_w H.out.body (.slice (some ⟨g, off + 1, none⟩) r.length (c - 1)))
    clear ht1 ht2
    go_enter Tryd.func43, Tryd.ntmps43
    go_wp2_with (first
      | (go_at_call 44; (with_reducible refine (done_any _ _).mono ?_); rintro e w1 ⟨rfl, hT⟩; have hk := hT.keep HW.out.res (by simp); obtain ⟨⟨e0, e1⟩, g0, g1⟩ := blk2 hk; have HB1 := Lib.hid hk; clear hk; have HT1 := Lib.hid hT; clear hT))
    have r := blk2 (told_blk HB1.out (.int .i64 0) (.int .i64 x))
    exact bodyPost_ret (v := rv (0, x)) (by simp [results, Tryd.results43, go_sem, r.1.1, r.1.2]) rfl (deq_end H.out HQ.out rfl HOK.out HT1.out _ _ HR.out)
theorem enqueue_any {w : World} {b : Nat} {m : Mo} {F : List Nat} (h : MAt w b m F) {a : Int} (ha : 0 ≤ a ∧ a ≤ 1023) :
    Calls Tryd.prog 42 #[.pointer (some ⟨b, 0, none⟩), .int .i64 a] w (MEnd w b F ({ m with q := (queT m.q 1 a).1 }, (queT m.q 1 a).2)) := by
  by_cases hf : 256 ≤ m.q.length
  · exact enqueue_full h hf
  · exact enqueue_room h ha (by omega)
theorem dequeue_any {w : World} {b : Nat} {m : Mo} {F : List Nat} (h : MAt w b m F) (a : Int) :
    Calls Tryd.prog 43 #[.pointer (some ⟨b, 0, none⟩)] w (MEnd w b F ({ m with q := (queT m.q 2 a).1 }, (queT m.q 2 a).2)) := by
  cases e : m.q with
  | nil => have := dequeue_none h e; rw [e] at this; exact this
  | cons x r => have := dequeue_some h e; rw [e] at this; exact this
end Mdl
end Go.Proofs.YtmodanjblbaedaaDoor
