/- The machine that lays. -/
import Derived.Test.YtkjcccjkfjebaaaPaceFrees
import Derived.Deep.RegionLaw
set_option linter.unusedVariables false
set_option linter.unusedSimpArgs false
namespace Go.Proofs.Ytkjcccjkfjebaaa
namespace Pac
open Go.RowKit Go.Maps Arn

abbrev RowV := Value × List Int
theorem under_rows : Try.prog.underlying 84 = some (.slice 42) := by kernel_rfl
theorem size_u64s (w : World) : (sizeOf 42).run Try.prog w = .ok 1 w := by kernel_rfl
/-- A list of rows, cut from the front. -/
def RowsAt (w : World) (v : Value) (R : List RowV) : Prop :=
  ((v = .slice none 0 0 ∧ R = []) ∨ ∃ g o c, v = .slice (some ⟨g, o, none⟩) R.length c ∧ R.length ≤ c ∧ c ≤ maxLen ∧ ∀ j x, R[j]? = some x → w.cell? ⟨g, o + j, none⟩ = some x.1) ∧ ∀ x, x ∈ R → WordsAt w x.1 x.2
def rowBlocks (R : List RowV) : List Nat := R.flatMap fun x => x.1.ownBlock.toList
theorem mem_rowBlocks {R : List RowV} {k : Nat} : k ∈ rowBlocks R ↔ ∃ x, x ∈ R ∧ x.1.ownBlock = some k := by simp [rowBlocks]
theorem RowsAt.turn {w w' : World} {v : Value} {R : List RowV} {F : List Nat} (h : RowsAt w v R) (ht : Frm.Turn F w w') (hn : ∀ k, v.ownBlock = some k → k ∉ F) (hr : ∀ k, k ∈ rowBlocks R → k ∉ F) : RowsAt w' v R := by
  refine ⟨?_, fun x hx => (h.2 x hx).turn ht (fun k hk => hr k (mem_rowBlocks.2 ⟨x, hx, hk⟩))⟩
  rcases h.1 with ⟨h1, h2⟩ | ⟨g, o, c, rfl, hc, hm, h1⟩
  · exact .inl ⟨h1, h2⟩
  · exact .inr ⟨g, o, c, rfl, hc, hm, fun j u hu => ht.cell (h1 j u hu) (hn g rfl)⟩
def LyBody (w : World) (r b : Nat) (x lv hv : Value) (ee : Int) : Prop := w.heap[r]? = some (.cells #[x, .pointer (some ⟨b, 0, none⟩), lv, hv, .int .i64 ee] 139 (0, 0))
variable {w : World} {r b : Nat} {x lv hv : Value} {ee : Int}
theorem LyBody.cells (h : LyBody w r b x lv hv ee) : w.cell? ⟨r, 0, none⟩ = some x ∧ w.cell? ⟨r, 1, none⟩ = some (.pointer (some ⟨b, 0, none⟩)) ∧ w.cell? ⟨r, 2, none⟩ = some lv ∧ w.cell? ⟨r, 3, none⟩ = some hv ∧ w.cell? ⟨r, 4, none⟩ = some (.int .i64 ee) := by
  unfold LyBody at h
  refine ⟨?_, ?_, ?_, ?_, ?_⟩ <;> simp [World.cell?, h]
theorem LyBody.thaw (h : LyBody w r b x lv hv ee) (i : Nat) : w.frozen? ⟨r, i, none⟩ = false := Frm.frozen_row w r i _ _ h
theorem LyBody.turn {w' : World} {F : List Nat} (h : LyBody w r b x lv hv ee) (ht : Frm.Turn F w w') (hn : r ∉ F) : LyBody w' r b x lv hv ee := ht.keep h hn
theorem LyBody.set (h : LyBody w r b x lv hv ee) : (∀ y, LyBody (w.setCell ⟨r, 0, none⟩ y) r b y lv hv ee) ∧ (∀ y, LyBody (w.setCell ⟨r, 2, none⟩ y) r b x y hv ee) ∧ (∀ y, LyBody (w.setCell ⟨r, 3, none⟩ y) r b x lv y ee) ∧ (∀ z, LyBody (w.setCell ⟨r, 4, none⟩ (.int .i64 z)) r b x lv hv z) := by
  unfold LyBody at h ⊢
  refine ⟨fun y => ?_, fun y => ?_, fun y => ?_, fun z => ?_⟩ <;> rw [Frm.heap_set _ _ _ _ _ _ _ h] <;> simp
def lyNext (r : Nat) : Value := .func (.func 100) #[.pointer (some ⟨r, 0, none⟩)] #[]
theorem lyNext_fn (r : Nat) : IsFn (lyNext r) := isFn_func _ _ _
def lyFoot (r : Nat) (lv hv : Value) (R : List RowV) : List Nat := r :: (lv.ownBlock.toList ++ (hv.ownBlock.toList ++ rowBlocks R))
theorem mem_lfoot {k : Nat} {R : List RowV} : k ∈ lyFoot r lv hv R ↔ k = r ∨ lv.ownBlock = some k ∨ hv.ownBlock = some k ∨ k ∈ rowBlocks R := by simp [lyFoot]
structure LyAt (w : World) (r b : Nat) (R : List RowV) (H : List Int) (ee : Int) (lv hv : Value) : Prop where
  body : LyBody w r b (nextOf R.length (lyNext r)) lv hv ee
  left : RowsAt w lv R
  handles : w.ownsRow 0 29 1 hv H.length (u64s H)
  ll : lv.ownBlock ≠ some r
  hh : hv.ownBlock ≠ some r
  rr : r ∉ rowBlocks R
  lh : ∀ k, hv.ownBlock = some k → lv.ownBlock ≠ some k ∧ k ∉ rowBlocks R
theorem LyAt.turn {w' : World} {R : List RowV} {H : List Int} {F : List Nat} (h : LyAt w r b R H ee lv hv) (ht : Frm.Turn F w w') (hn : ∀ k, k ∈ lyFoot r lv hv R → k ∉ F) : LyAt w' r b R H ee lv hv :=
  ⟨h.body.turn ht (hn r (mem_lfoot.2 (.inl rfl))), h.left.turn ht (fun k hk => hn k (mem_lfoot.2 (.inr (.inl hk)))) (fun k hk => hn k (mem_lfoot.2 (.inr (.inr (.inr hk))))), row_turn h.handles ht (fun k hk => hn k (mem_lfoot.2 (.inr (.inr (.inl hk))))), h.ll, h.hh, h.rr, h.lh⟩
/-- Behind a step of a machine that lays. -/
def LyAfter (w : World) (r b : Nat) (M : Mem) (lv hv : Value) (R0 : List RowV) (A' : Ar) (n : Nat) (R : List RowV) (H : List Int) (ee : Int) (wc w' : World) : Prop :=
  ∃ M' lv' hv', Sin w b M' A' n w' ∧ LyAt w' r b R H ee lv' hv' ∧ (∀ k, k ∈ lyFoot r lv' hv' R → k ∉ M'.foot b ∧ w.heap.size ≤ k) ∧ Frm.Turn (M.foot b ++ lyFoot r lv hv R0) wc w' ∧
    (∀ k, k ∈ M'.foot b → k ∈ M.foot b ∨ wc.heap.size ≤ k) ∧ (∀ k, k ∈ lyFoot r lv' hv' R → k ∈ lyFoot r lv hv R0 ∨ (wc.heap.size ≤ k ∧ k < w'.heap.size))
theorem run_tail_r (g o n c : Nat) (hc : n + 1 ≤ c) (hn : n ≤ 70000) (w : World) : (Instr.slice 84 (.slice (some ⟨g, o, none⟩) (n + 1) c) (some (.int .i64 1)) none none).run Try.prog w = .ok (.slice (some ⟨g, if c = 1 then o else o + 1, none⟩) n (c - 1)) w := by
  have hu := run_underlying under_rows w
  have hs := size_u64s
  have h1 : (1 : Int) ≤ ((n : Int) + 1) := by omega
  by_cases h : c = 1
  · simp [Instr.slice, Instr.sliceBounds, Instr.sliceBound, go_sem, hu, hs, h1, h, asIntOf]
  · simp [Instr.slice, Instr.sliceBounds, Instr.sliceBound, go_sem, hu, hs, h1, h, asIntOf, add_at]
/-- The block of a machine's cells, and of all that it reads, was there. -/
theorem LyAt.lt {R : List RowV} {H : List Int} {ws : List Int} {v : Value} {g o c : Nat} (h : LyAt w r b ((v, ws) :: R) H ee (.slice (some ⟨g, o, none⟩) (R.length + 1) c) hv) (hb : ∀ k, k ∈ rowBlocks ((v, ws) :: R) → k < w.heap.size) :
    ∀ k, k ∈ lyFoot r (.slice (some ⟨g, o, none⟩) (R.length + 1) c) hv ((v, ws) :: R) → k < w.heap.size := by
  intro k hk
  rcases mem_lfoot.1 hk with rfl | hk | hk | hk
  · exact (Array.getElem?_eq_some_iff.1 h.body).1
  · cases hk
    rcases h.left.1 with ⟨h1, _⟩ | ⟨g', o', c', h1, h2, h3, h4⟩
    · cases h1
    · simp only [Value.slice.injEq, Option.some.injEq, Addr.mk.injEq] at h1
      obtain ⟨⟨rfl, rfl, _⟩, _, rfl⟩ := h1
      exact World.block_lt_of_cell? w ⟨g, o + 0, none⟩ (h4 0 _ rfl)
  · exact (h.handles.lt k hk).2
  · exact hb k hk
/-- A step that was refused. -/
theorem ly_stop {w wd wc : World} {r b n : Nat} {M M' : Mem} {A A' : Ar} {lv hv : Value} {R0 : List RowV} {H : List Int} {e0 ff : Int}
    (h : Sin w b M A n wd) (hs : Sin w b M' A' (n + 1) wc) (hT : Frm.Turn (M.foot b) wd wc) (hf : ∀ k, k ∈ M'.foot b → k ∈ M.foot b ∨ wd.heap.size ≤ k)
    (hr0 : LyAt wd r b R0 H e0 lv hv) (hd : ∀ k, k ∈ lyFoot r lv hv R0 → k ∉ M.foot b ∧ w.heap.size ≤ k) :
    LyAfter w r b M lv hv R0 A' (n + 1) [] H ff wd (((wc.setCell ⟨r, 4, none⟩ (.int .i64 ff)).setCell ⟨r, 2, none⟩ (.slice none 0 0)).setCell ⟨r, 0, none⟩ .nilFunc) := by
  have hr := hr0.turn hT (fun k hk => (hd k hk).1)
  have hrl : r < wd.heap.size := (Array.getElem?_eq_some_iff.1 hr0.body).1
  have hno : ∀ k, k ∈ lyFoot r lv hv R0 → k < wd.heap.size → k ∉ M'.foot b := fun k hk hl hk' => by
    rcases hf k hk' with h1 | h1
    · exact (hd k hk).1 h1
    · omega
  have hr0m : r ∈ lyFoot r lv hv R0 := mem_lfoot.2 (.inl rfl)
  have T1 : Frm.Turn [r] wc (((wc.setCell ⟨r, 4, none⟩ (.int .i64 ff)).setCell ⟨r, 2, none⟩ (.slice none 0 0)).setCell ⟨r, 0, none⟩ .nilFunc) :=
    ((((Frm.Turn.refl _ wc).setCell (p := ⟨r, 4, none⟩) (.inl (by simp)) _).setCell (p := ⟨r, 2, none⟩) (.inl (by simp)) _).setCell (p := ⟨r, 0, none⟩) (.inl (by simp)) _)
  have hsub : ∀ k, k ∈ lyFoot r (.slice none 0 0) hv ([] : List RowV) → k ∈ lyFoot r lv hv R0 ∧ k < wd.heap.size := fun k hk => by
    rcases mem_lfoot.1 hk with rfl | hk | hk | hk
    · exact ⟨hr0m, hrl⟩
    · cases hk
    · exact ⟨mem_lfoot.2 (.inr (.inr (.inl hk))), (hr0.handles.lt k hk).2⟩
    · simp [rowBlocks] at hk
  refine ⟨M', .slice none 0 0, hv, hs.apart T1 (fun k hk hk' => by simp at hk'; subst hk'; exact hno k hr0m hrl hk) (fun k hk => by simp at hk; subst hk; exact (hd k hr0m).2),
    ⟨((hr.body.set.2.2.2 ff).set.2.1 _).set.1 _, ⟨.inl ⟨rfl, rfl⟩, by simp⟩, row_turn hr.handles T1 (fun k hk e => by simp at e; subst e; exact hr.hh hk), by simp [Value.ownBlock], hr.hh, by simp [rowBlocks], fun k hk => ⟨by simp [Value.ownBlock], by simp [rowBlocks]⟩⟩, ?_, ?_, hf, ?_⟩
  · intro k hk
    obtain ⟨h1, h2⟩ := hsub k hk
    exact ⟨hno k h1 h2, (hd k h1).2⟩
  · exact (hT.mono (by simp +contextual)).trans T1 (fun k hk => .inl (by simp at hk; subst hk; simp [lyFoot]))
  · exact fun k hk => .inl (hsub k hk).1
/-- A step that laid a block. -/
theorem ly_done {w wd wc w3 : World} {r b n g o c q : Nat} {M M' : Mem} {A A' : Ar} {v : Value} {ws : List Int} {R : List RowV} {H : List Int} {e0 val : Int} {hv v1 : Value} {ob : Obj} (hq : q = R.length) (hlc : q + 1 ≤ c) (hcm : c ≤ maxLen)
    (h : Sin w b M A n wd) (hs : Sin w b M' A' (n + 1) wc) (hT : Frm.Turn (M.foot b) wd wc) (hf : ∀ k, k ∈ M'.foot b → k ∈ M.foot b ∨ wd.heap.size ≤ k)
    (hr0 : LyAt wd r b ((v, ws) :: R) H e0 (.slice (some ⟨g, o, none⟩) (q + 1) c) hv) (hd : ∀ k, k ∈ lyFoot r (.slice (some ⟨g, o, none⟩) (q + 1) c) hv ((v, ws) :: R) → k ∉ M.foot b ∧ w.heap.size ≤ k) (hrb : ∀ k, k ∈ rowBlocks ((v, ws) :: R) → k < wd.heap.size)
    (hg : (((wc.setCell ⟨r, 4, none⟩ (.int .i64 0)).setCell ⟨r, 2, none⟩ (.slice (some ⟨g, if c = 1 then o else o + 1, none⟩) q (c - 1))).alloc ob).grownBy w3 hv.ownBlock) (hown : w3.ownsRow 0 29 1 v1 (H.length + 1) (u64s H ++ [.int .u64 val]))
    (hl : v1.ownBlock = hv.ownBlock ∨ v1.ownBlock = some (wc.heap.size + 1)) :
    LyAfter w r b M (.slice (some ⟨g, o, none⟩) (q + 1) c) hv ((v, ws) :: R) A' (n + 1) R (H ++ [val]) 0 wd (((w3.setCell ⟨r, 3, none⟩ v1).setCell ⟨r, 0, none⟩ (nextOf q (lyNext r))).drew) := by
  subst hq
  have hlt0 := hr0.lt hrb
  have hr := hr0.turn hT (fun k hk => (hd k hk).1)
  have hcell : ∀ j x, ((v, ws) :: R)[j]? = some x → wc.cell? ⟨g, o + j, none⟩ = some x.1 := by
    rcases hr.left.1 with ⟨h1, _⟩ | ⟨g', o', c', h1, h2, h3, h4⟩
    · cases h1
    · simp only [Value.slice.injEq, Option.some.injEq, Addr.mk.injEq] at h1
      obtain ⟨⟨rfl, rfl, _⟩, _, rfl⟩ := h1
      exact h4
  have hws := hT.size
  obtain ⟨o2, ho2⟩ : ∃ o2, o2 = if c = 1 then o else o + 1 := ⟨_, rfl⟩
  rw [← ho2] at hg
  have T1 : Frm.Turn (r :: hv.ownBlock.toList) wc (((w3.setCell ⟨r, 3, none⟩ v1).setCell ⟨r, 0, none⟩ (nextOf R.length (lyNext r))).drew) :=
    ((((((((Frm.Turn.refl _ wc).setCell (p := ⟨r, 4, none⟩) (.inl (by simp)) _).setCell (p := ⟨r, 2, none⟩) (.inl (by simp)) _).alloc ob).trans (Frm.Turn.of_grown hg) (fun k hk => .inl (by simp at hk ⊢; exact .inr hk))).setCell (p := ⟨r, 3, none⟩) (.inl (by simp)) v1).setCell (p := ⟨r, 0, none⟩) (.inl (by simp)) _).drew)
  have hsub : ∀ k, k ∈ r :: hv.ownBlock.toList → k ∈ lyFoot r (.slice (some ⟨g, o, none⟩) (R.length + 1) c) hv ((v, ws) :: R) := fun k hk => by
    simp at hk
    exact mem_lfoot.2 (hk.elim .inl (fun e => .inr (.inr (.inl e))))
  have hno : ∀ k, k ∈ lyFoot r (.slice (some ⟨g, o, none⟩) (R.length + 1) c) hv ((v, ws) :: R) → k ∉ M'.foot b := fun k hk hk' => by
    rcases hf k hk' with h1 | h1
    · exact (hd k hk).1 h1
    · have := hlt0 k hk; omega
  have hgr : g ≠ r := fun e => hr.ll (by rw [e]; rfl)
  have hgw : ∀ k, hv.ownBlock = some k → g ≠ k := fun k hk e => (hr.lh k hk).1 (by rw [← e]; rfl)
  have hrlt : r < wd.heap.size := hlt0 r (mem_lfoot.2 (.inl rfl))
  have hv1 : ∀ k, v1.ownBlock = some k → hv.ownBlock = some k ∨ k = wc.heap.size + 1 := fun k hk => by
    rcases hl with e | e
    · left; rw [← e]; exact hk
    · right; rw [e] at hk; cases hk; rfl
  have hv1r : v1.ownBlock ≠ some r := fun e => by
    rcases hv1 r e with h1 | h1
    · exact hr.hh h1
    · omega
  have htl : ∀ k, k ∈ rowBlocks R → k ∈ rowBlocks ((v, ws) :: R) := fun k hk => by
    obtain ⟨x, hx, hxk⟩ := mem_rowBlocks.1 hk
    exact mem_rowBlocks.2 ⟨x, by simp [hx], hxk⟩
  have hb2 := (hr.body.set.2.2.2 0).set.2.1 (.slice (some ⟨g, o2, none⟩) R.length (c - 1))
  have hb3 : LyBody w3 r b (nextOf ((v, ws) :: R).length (lyNext r)) (.slice (some ⟨g, o2, none⟩) R.length (c - 1)) hv 0 :=
    (hb2.turn ((Frm.Turn.refl [] _).alloc ob) (by simp)).turn (Frm.Turn.of_grown hg) (by simp; exact fun e => hr.hh e)
  have hb5 : LyBody (((w3.setCell ⟨r, 3, none⟩ v1).setCell ⟨r, 0, none⟩ (nextOf R.length (lyNext r))).drew) r b (nextOf R.length (lyNext r)) (.slice (some ⟨g, o2, none⟩) R.length (c - 1)) v1 0 :=
    LyBody.turn ((hb3.set.2.2.1 v1).set.1 _) (Frm.Turn.refl [] _).drew (by simp)
  have hT1r : ∀ k, k ∈ rowBlocks R → k ∉ r :: hv.ownBlock.toList := fun k hk hk' => by
    simp at hk'
    rcases hk' with rfl | hk'
    · exact hr.rr (htl _ hk)
    · exact (hr.lh k hk').2 (htl _ hk)
  refine ⟨M', .slice (some ⟨g, o2, none⟩) R.length (c - 1), v1, hs.apart T1 (fun k hk hk' => hno k (hsub k hk') hk) (fun k hk => (hd k (hsub k hk)).2), ⟨hb5, ⟨.inr ⟨g, o2, c - 1, rfl, by omega, by omega, fun j x hu => ?_⟩, fun x hx => ?_⟩, ?_, ?_, hv1r, fun hk => hr.rr (htl _ hk), ?_⟩, ?_, ?_, hf, ?_⟩
  · have hcl := hcell (j + 1) x (by simpa using hu)
    have hne : c ≠ 1 := by
      have h0 : 0 < R.length := by have := (List.getElem?_eq_some_iff.1 hu).1; omega
      omega
    rw [if_neg hne] at ho2
    have e : o + (j + 1) = o2 + j := by omega
    rw [e] at hcl
    exact T1.cell hcl (by simp; exact ⟨hgr, fun e => hgw g e rfl⟩)
  · exact (hr.left.2 x (by simp [hx])).turn T1 (fun k hk => hT1r k (mem_rowBlocks.2 ⟨x, hx, hk⟩))
  · have hlen : (H ++ [val]).length = H.length + 1 := by simp
    have hu : u64s (H ++ [val]) = u64s H ++ [.int .u64 val] := by simp [u64s]
    rw [hlen, hu]
    have T3 : Frm.Turn [r] w3 (((w3.setCell ⟨r, 3, none⟩ v1).setCell ⟨r, 0, none⟩ (nextOf R.length (lyNext r))).drew) := (((Frm.Turn.refl _ w3).setCell (p := ⟨r, 3, none⟩) (.inl (by simp)) v1).setCell (p := ⟨r, 0, none⟩) (.inl (by simp)) _).drew
    exact row_turn hown T3 (fun k hk e => by simp at e; subst e; exact hv1r hk)
  · simp [Value.ownBlock]; exact hgr
  · intro k hk
    rcases hv1 k hk with h1 | h1
    · exact ⟨fun e => by simp [Value.ownBlock] at e; exact hgw k h1 e, fun hk' => (hr.lh k h1).2 (htl _ hk')⟩
    · refine ⟨fun e => ?_, fun hk' => ?_⟩
      · simp [Value.ownBlock] at e
        have := hlt0 g (mem_lfoot.2 (.inr (.inl rfl))); omega
      · have := hrb k (htl _ hk'); omega
  · intro k hk
    rcases mem_lfoot.1 hk with rfl | hk | hk | hk
    · exact ⟨hno _ (mem_lfoot.2 (.inl rfl)), (hd _ (mem_lfoot.2 (.inl rfl))).2⟩
    · simp [Value.ownBlock] at hk; subst hk
      exact ⟨hno _ (mem_lfoot.2 (.inr (.inl rfl))), (hd _ (mem_lfoot.2 (.inr (.inl rfl)))).2⟩
    · rcases hv1 k hk with h1 | h1
      · exact ⟨hno _ (mem_lfoot.2 (.inr (.inr (.inl h1)))), (hd _ (mem_lfoot.2 (.inr (.inr (.inl h1))))).2⟩
      · exact ⟨fun hk' => by have := hs.lt hk'; omega, by have := hs.turn.size; omega⟩
    · exact ⟨hno _ (mem_lfoot.2 (.inr (.inr (.inr (htl _ hk))))), (hd _ (mem_lfoot.2 (.inr (.inr (.inr (htl _ hk)))))).2⟩
  · exact (hT.mono (by simp +contextual)).trans T1 (fun k hk => .inl (by have := hsub k hk; simp [this]))
  · intro k hk
    rcases mem_lfoot.1 hk with rfl | hk | hk | hk
    · exact .inl (mem_lfoot.2 (.inl rfl))
    · simp [Value.ownBlock] at hk; subst hk
      exact .inl (mem_lfoot.2 (.inr (.inl rfl)))
    · rcases hv1 k hk with h1 | h1
      · exact .inl (mem_lfoot.2 (.inr (.inr (.inl h1))))
      · right; exact ⟨by omega, Nat.lt_of_lt_of_le (hown.lt k hk).2 ((((Frm.Turn.refl [r] w3).setCell (p := ⟨r, 3, none⟩) (.inl (by simp)) v1).setCell (p := ⟨r, 0, none⟩) (.inl (by simp)) (nextOf R.length (lyNext r))).drew).size⟩
    · exact .inl (mem_lfoot.2 (.inr (.inr (.inr (htl _ hk)))))
end Pac
end Go.Proofs.Ytkjcccjkfjebaaa
