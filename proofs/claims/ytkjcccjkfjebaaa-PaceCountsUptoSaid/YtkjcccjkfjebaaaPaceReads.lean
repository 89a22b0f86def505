/- The machine that reads. -/
import Derived.Test.YtkjcccjkfjebaaaPaceAddrs
import Derived.Test.YtkjcccjkfjebaaaArenaSin
import Derived.Deep.RegionWith
set_option linter.unusedVariables false
set_option linter.unusedSimpArgs false
namespace Go.Proofs.Ytkjcccjkfjebaaa
namespace Pac
open Go.RowKit Go.Maps Arn

theorem row_turn {w w' : World} {base : Nat} {e : TypeId} {size n : Nat} {v : Value} {xs : List Value} {F : List Nat} (h : w.ownsRow base e size v n xs) (ht : Frm.Turn F w w') (hn : ∀ k, v.ownBlock = some k → k ∉ F) : w'.ownsRow base e size v n xs := by
  refine ⟨h.1, h.2.imp id ?_⟩
  rintro ⟨g, cap, cur, rfl, h1, h2, h3⟩
  exact ⟨g, cap, cur, rfl, h1, ht.keep h2 (hn g rfl), h3⟩
/-- What a machine that reads has in its box. -/
def RdBody (w : World) (r b : Nat) (x lv wv : Value) : Prop := w.heap[r]? = some (.cells #[x, .pointer (some ⟨b, 0, none⟩), lv, wv] 136 (0, 0))
theorem RdBody.cells {w : World} {r b : Nat} {x lv wv : Value} (h : RdBody w r b x lv wv) : w.cell? ⟨r, 0, none⟩ = some x ∧ w.cell? ⟨r, 1, none⟩ = some (.pointer (some ⟨b, 0, none⟩)) ∧ w.cell? ⟨r, 2, none⟩ = some lv ∧ w.cell? ⟨r, 3, none⟩ = some wv := by
  unfold RdBody at h
  refine ⟨?_, ?_, ?_, ?_⟩ <;> simp [World.cell?, h]
theorem RdBody.thaw {w : World} {r b : Nat} {x lv wv : Value} (h : RdBody w r b x lv wv) (i : Nat) : w.frozen? ⟨r, i, none⟩ = false := Frm.frozen_row w r i _ _ h
theorem RdBody.turn {w w' : World} {r b : Nat} {x lv wv : Value} {F : List Nat} (h : RdBody w r b x lv wv) (ht : Frm.Turn F w w') (hn : r ∉ F) : RdBody w' r b x lv wv := ht.keep h hn
theorem RdBody.set {w : World} {r b : Nat} {x lv wv : Value} (h : RdBody w r b x lv wv) :
    (∀ y, RdBody (w.setCell ⟨r, 0, none⟩ y) r b y lv wv) ∧ (∀ y, RdBody (w.setCell ⟨r, 2, none⟩ y) r b x y wv) ∧ (∀ y, RdBody (w.setCell ⟨r, 3, none⟩ y) r b x lv y) := by
  unfold RdBody at h ⊢
  refine ⟨fun y => ?_, fun y => ?_, fun y => ?_⟩ <;> rw [Frm.heap_set _ _ _ _ _ _ _ h] <;> simp
/-- The function that reads the next word of the machine in box r. -/
def rdNext (r : Nat) : Value := .func (.func 89) #[.pointer (some ⟨r, 0, none⟩)] #[]
theorem rdNext_fn (r : Nat) : IsFn (rdNext r) := isFn_func _ _ _
def rdFoot (r : Nat) (lv wv : Value) : List Nat := r :: (lv.ownBlock.toList ++ wv.ownBlock.toList)
structure RdAt (w : World) (r b : Nat) (L : List (Int × Int)) (W : List Int) (lv wv : Value) : Prop where
  body : RdBody w r b (nextOf L.length (rdNext r)) lv wv
  left : AddrsAt w lv L
  words : w.ownsRow 0 29 1 wv W.length (u64s W)
  ll : lv.ownBlock ≠ some r
  ww : wv.ownBlock ≠ some r
  lw : ∀ k, wv.ownBlock = some k → lv.ownBlock ≠ some k
theorem mem_foot {r k : Nat} {lv wv : Value} : k ∈ rdFoot r lv wv ↔ k = r ∨ lv.ownBlock = some k ∨ wv.ownBlock = some k := by
  simp [rdFoot]
theorem RdAt.turn {w w' : World} {r b : Nat} {L : List (Int × Int)} {W : List Int} {lv wv : Value} {F : List Nat} (h : RdAt w r b L W lv wv) (ht : Frm.Turn F w w') (hn : ∀ k, k ∈ rdFoot r lv wv → k ∉ F) : RdAt w' r b L W lv wv :=
  ⟨h.body.turn ht (hn r (mem_foot.2 (.inl rfl))), h.left.turn ht (fun k hk => hn k (mem_foot.2 (.inr (.inl hk)))), row_turn h.words ht (fun k hk => hn k (mem_foot.2 (.inr (.inr hk)))), h.ll, h.ww, h.lw⟩
theorem RdAt.lt {w : World} {r b : Nat} {L : List (Int × Int)} {W : List Int} {lv wv : Value} (h : RdAt w r b L W lv wv) (hl : ∀ k, lv.ownBlock = some k → k < w.heap.size) : ∀ k, k ∈ rdFoot r lv wv → k < w.heap.size := by
  intro k hk
  rcases mem_foot.1 hk with rfl | hk | hk
  · exact (Array.getElem?_eq_some_iff.1 h.body).1
  · exact hl k hk
  · exact (h.words.lt k hk).2
/-- Behind a step of a machine that reads. -/
def RdAfter (w : World) (r b : Nat) (M : Mem) (lv wv : Value) (A' : Ar) (n : Nat) (L : List (Int × Int)) (W : List Int) (wc w' : World) : Prop :=
  ∃ M' lv' wv', Sin w b M' A' n w' ∧ RdAt w' r b L W lv' wv' ∧ (∀ k, k ∈ rdFoot r lv' wv' → k ∉ M'.foot b ∧ w.heap.size ≤ k) ∧ Frm.Turn (M.foot b ++ rdFoot r lv wv) wc w' ∧
    (∀ k, k ∈ M'.foot b → k ∈ M.foot b ∨ wc.heap.size ≤ k) ∧ (∀ k, k ∈ rdFoot r lv' wv' → k ∈ rdFoot r lv wv ∨ (wc.heap.size ≤ k ∧ k < w'.heap.size))
theorem size_addr (w : World) : (sizeOf 34).run Try.prog w = .ok 2 w := by kernel_rfl
/-- x[1:] of addresses. -/
theorem run_tail (g o n c : Nat) (hc : n + 1 ≤ c) (hn : n ≤ 70000) (w : World) : (Instr.slice 82 (.slice (some ⟨g, o, none⟩) (n + 1) c) (some (.int .i64 1)) none none).run Try.prog w = .ok (.slice (some ⟨g, if c = 1 then o else o + 2, none⟩) n (c - 1)) w := by
  have hu := run_underlying under_addrs w
  have hs := size_addr
  have h1 : (1 : Int) ≤ ((n : Int) + 1) := by omega
  by_cases h : c = 1
  · simp [Instr.slice, Instr.sliceBounds, Instr.sliceBound, go_sem, hu, hs, h1, h, asIntOf]
  · simp [Instr.slice, Instr.sliceBounds, Instr.sliceBound, go_sem, hu, hs, h1, h, asIntOf, add_at]

theorem cell_one_new (w : World) (x : Value) (t : TypeId) (k : Nat) (hk : k = w.heap.size) : ∀ j u, [x][j]? = some u → (w.alloc (.cells #[x] t)).cell? ((⟨k, 0, none⟩ : Addr).add j) = some u := by
  intro j u hj
  subst hk
  match j, hj with
  | 0, hj =>
    simp at hj; subst hj
    have hb := World.alloc_heap_new w (.cells #[x] t)
    show (w.alloc (.cells #[x] t)).cell? ⟨w.heap.size, 0, none⟩ = _
    unfold World.cell?
    rw [hb]; rfl
theorem addrCells_cons (x : Int × Int) (l : List (Int × Int)) (j : Nat) : (addrCells (x :: l))[j + 2]? = (addrCells l)[j]? := by simp [addrCells]
/-- What a step of reading leaves, out of what its parts leave. -/
theorem rd_done {w wd wc w3 : World} {r b n g o c q : Nat} {M M' : Mem} {A A' : Ar} {blk i val : Int} {L : List (Int × Int)} {W : List Int} {wv v1 : Value} {ob : Obj} (hq : q = L.length) (hlc : q + 1 ≤ c) (hcm : c ≤ maxLen)
    (h : Sin w b M A n wd) (hs : Sin w b M' A' (n + 1) wc) (hT : Frm.Turn (M.foot b) wd wc) (hf : ∀ k, k ∈ M'.foot b → k ∈ M.foot b ∨ wd.heap.size ≤ k)
    (hr0 : RdAt wd r b ((blk, i) :: L) W (.slice (some ⟨g, o, none⟩) (q + 1) c) wv) (hd : ∀ k, k ∈ rdFoot r (.slice (some ⟨g, o, none⟩) (q + 1) c) wv → k ∉ M.foot b ∧ w.heap.size ≤ k)
    (hg : ((wc.setCell ⟨r, 2, none⟩ (.slice (some ⟨g, if c = 1 then o else o + 2, none⟩) q (c - 1))).alloc ob).grownBy w3 wv.ownBlock) (hown : w3.ownsRow 0 29 1 v1 (W.length + 1) (u64s W ++ [.int .u64 val]))
    (hl : v1.ownBlock = wv.ownBlock ∨ v1.ownBlock = some (wc.heap.size + 1)) :
    RdAfter w r b M (.slice (some ⟨g, o, none⟩) (q + 1) c) wv A' (n + 1) L (W ++ [val]) wd (((w3.setCell ⟨r, 3, none⟩ v1).setCell ⟨r, 0, none⟩ (nextOf q (rdNext r))).drew) := by
  have hr := hr0.turn hT (fun k hk => (hd k hk).1)
  obtain ⟨hlc1, hcm1, hcell⟩ : q + 1 ≤ c ∧ c ≤ maxLen ∧ ∀ j u, (addrCells ((blk, i) :: L))[j]? = some u → wc.cell? ⟨g, o + j, none⟩ = some u := by
    rcases hr.left with ⟨h1, _⟩ | ⟨g', o', c', h1, h2, h3, h4⟩
    · cases h1
    · simp only [Value.slice.injEq, Option.some.injEq, Addr.mk.injEq] at h1
      obtain ⟨⟨rfl, rfl, _⟩, _, rfl⟩ := h1
      exact ⟨hlc, hcm, h4⟩
  have hgl0 : g < wd.heap.size := by
    rcases hr0.left with ⟨h1, _⟩ | ⟨g', o', c', h1, h2, h3, h4⟩
    · cases h1
    · simp only [Value.slice.injEq, Option.some.injEq, Addr.mk.injEq] at h1
      obtain ⟨⟨rfl, rfl, _⟩, _, rfl⟩ := h1
      exact World.block_lt_of_cell? wd ⟨g, o + 0, none⟩ (h4 0 _ rfl)
  have hlt0 : ∀ k, k ∈ rdFoot r (.slice (some ⟨g, o, none⟩) (q + 1) c) wv → k < wd.heap.size := hr0.lt (fun k hk => by cases hk; exact hgl0)
  have hws := hT.size
  have T1 : Frm.Turn (r :: wv.ownBlock.toList) wc (((w3.setCell ⟨r, 3, none⟩ v1).setCell ⟨r, 0, none⟩ (nextOf q (rdNext r))).drew) :=
    (((((((Frm.Turn.refl _ wc).setCell (p := ⟨r, 2, none⟩) (.inl (by simp)) _).alloc ob).trans (Frm.Turn.of_grown hg) (fun k hk => .inl (by simp at hk ⊢; exact .inr hk))).setCell (p := ⟨r, 3, none⟩) (.inl (by simp)) v1).setCell (p := ⟨r, 0, none⟩) (.inl (by simp)) _).drew)
  have hsub : ∀ k, k ∈ r :: wv.ownBlock.toList → k ∈ rdFoot r (.slice (some ⟨g, o, none⟩) (q + 1) c) wv := fun k hk => by
    simp at hk
    exact mem_foot.2 (hk.elim .inl (fun e => .inr (.inr e)))
  have hno : ∀ k, k ∈ rdFoot r (.slice (some ⟨g, o, none⟩) (q + 1) c) wv → k ∉ M'.foot b := fun k hk hk' => by
    rcases hf k hk' with h1 | h1
    · exact (hd k hk).1 h1
    · have := hlt0 k hk; omega
  have hgr : g ≠ r := fun e => hr.ll (by rw [e]; rfl)
  have hgw : ∀ k, wv.ownBlock = some k → g ≠ k := fun k hk e => hr.lw k hk (by rw [← e]; rfl)
  have hrlt : r < wd.heap.size := hlt0 r (mem_foot.2 (.inl rfl))
  have hv1 : ∀ k, v1.ownBlock = some k → wv.ownBlock = some k ∨ k = wc.heap.size + 1 := fun k hk => by
    rcases hl with e | e
    · left; rw [← e]; exact hk
    · right; rw [e] at hk; cases hk; rfl
  have hv1r : v1.ownBlock ≠ some r := fun e => by
    rcases hv1 r e with h1 | h1
    · exact hr.ww h1
    · omega
  have hb2 := (hr.body.set.2.1 (.slice (some ⟨g, if c = 1 then o else o + 2, none⟩) q (c - 1)))
  have hb3 : RdBody w3 r b (nextOf ((blk, i) :: L).length (rdNext r)) (.slice (some ⟨g, if c = 1 then o else o + 2, none⟩) q (c - 1)) wv :=
    (hb2.turn ((Frm.Turn.refl [] _).alloc ob) (by simp)).turn (Frm.Turn.of_grown hg) (by simp; exact fun e => hr.ww e)
  have hb5 : RdBody (((w3.setCell ⟨r, 3, none⟩ v1).setCell ⟨r, 0, none⟩ (nextOf q (rdNext r))).drew) r b (nextOf L.length (rdNext r)) (.slice (some ⟨g, if c = 1 then o else o + 2, none⟩) q (c - 1)) v1 := by
    rw [← hq]
    exact RdBody.turn ((hb3.set.2.2 v1).set.1 _) (Frm.Turn.refl [] _).drew (by simp)
  refine ⟨M', .slice (some ⟨g, if c = 1 then o else o + 2, none⟩) q (c - 1), v1, hs.apart T1 (fun k hk hk' => hno k (hsub k hk') hk) (fun k hk => (hd k (hsub k hk)).2), ⟨hb5, ?_, ?_, ?_, hv1r, ?_⟩, ?_, ?_, hf, ?_⟩
  · refine .inr ⟨g, if c = 1 then o else o + 2, c - 1, by rw [hq], by omega, by omega, fun j u hu => ?_⟩
    have hcl := hcell (j + 2) u (by rw [addrCells_cons]; exact hu)
    have hne : c ≠ 1 := by
      have h0 : 0 < L.length := by
        cases L with
        | nil => simp [addrCells] at hu
        | cons y t => simp
      omega
    rw [if_neg hne]
    have e : o + (j + 2) = o + 2 + j := by omega
    rw [e] at hcl
    exact T1.cell hcl (by simp; exact ⟨hgr, fun e => hgw g e rfl⟩)
  · have hlen : (W ++ [val]).length = W.length + 1 := by simp
    have hu : u64s (W ++ [val]) = u64s W ++ [.int .u64 val] := by simp [u64s]
    rw [hlen, hu]
    have T3 : Frm.Turn [r] w3 (((w3.setCell ⟨r, 3, none⟩ v1).setCell ⟨r, 0, none⟩ (nextOf q (rdNext r))).drew) := (((Frm.Turn.refl _ w3).setCell (p := ⟨r, 3, none⟩) (.inl (by simp)) v1).setCell (p := ⟨r, 0, none⟩) (.inl (by simp)) _).drew
    exact row_turn hown T3 (fun k hk e => by simp at e; subst e; exact hv1r hk)
  · simp [Value.ownBlock]; exact hgr
  · intro k hk e
    simp [Value.ownBlock] at e
    rcases hv1 k hk with h1 | h1
    · exact hgw k h1 e
    · omega
  · intro k hk
    rcases mem_foot.1 hk with rfl | hk | hk
    · exact ⟨hno _ (mem_foot.2 (.inl rfl)), (hd _ (mem_foot.2 (.inl rfl))).2⟩
    · simp [Value.ownBlock] at hk; subst hk
      exact ⟨hno _ (mem_foot.2 (.inr (.inl rfl))), (hd _ (mem_foot.2 (.inr (.inl rfl)))).2⟩
    · rcases hv1 k hk with h1 | h1
      · exact ⟨hno _ (mem_foot.2 (.inr (.inr h1))), (hd _ (mem_foot.2 (.inr (.inr h1)))).2⟩
      · exact ⟨fun hk' => by have := hs.lt hk'; omega, by have := hs.turn.size; omega⟩
  · exact hT.mono (by simp +contextual) |>.trans T1 (fun k hk => .inl (by have := hsub k hk; simp [this]))
  · intro k hk
    rcases mem_foot.1 hk with rfl | hk | hk
    · exact .inl (mem_foot.2 (.inl rfl))
    · simp [Value.ownBlock] at hk; subst hk
      exact .inl (mem_foot.2 (.inr (.inl rfl)))
    · rcases hv1 k hk with h1 | h1
      · exact .inl (mem_foot.2 (.inr (.inr h1)))
      · right; exact ⟨by omega, Nat.lt_of_lt_of_le (hown.lt k hk).2 ((((Frm.Turn.refl [r] w3).setCell (p := ⟨r, 3, none⟩) (.inl (by simp)) v1).setCell (p := ⟨r, 0, none⟩) (.inl (by simp)) (nextOf q (rdNext r))).drew).size⟩

set_option maxRecDepth 100000 in
set_option maxHeartbeats 1000000 in
theorem read_any {w wd : World} {r b n : Nat} {M : Mem} {A : Ar} {blk i : Int} {L : List (Int × Int)} {W : List Int} {lv wv : Value} (h : Sin w b M A n wd) (hn : n ≤ 10000000) (hr : RdAt wd r b ((blk, i) :: L) W lv wv)
    (hd : ∀ k, k ∈ rdFoot r lv wv → k ∉ M.foot b ∧ w.heap.size ≤ k) (hW : W.length ≤ 60000) (hL : L.length ≤ 60000) (hb : W64 blk) (hi : (Lit.int .i64 i).wf = true) :
    Calls Try.prog 89 #[.pointer (some ⟨r, 0, none⟩)] wd fun e w' => e = .returned (.tuple #[]) ∧ RdAfter w r b M lv wv (A.read blk i).1 (n + 1) L (W ++ [(A.read blk i).2.1]) wd w' := by
  have HRD := Lib.hid (sin_read (h.step ((Frm.Turn.refl [] wd).drew)) (by omega) blk i hb hi)
  obtain ⟨g, o, c, rfl, hlc, hcm, hcells⟩ : ∃ g o c, lv = .slice (some ⟨g, o, none⟩) (L.length + 1) c ∧ L.length + 1 ≤ c ∧ c ≤ maxLen ∧ ∀ j u, (addrCells ((blk, i) :: L))[j]? = some u → wd.cell? ⟨g, o + j, none⟩ = some u := by
    rcases hr.left with ⟨_, h2⟩ | ⟨g, o, c, h1, h2⟩
    · cases h2
    · exact ⟨g, o, c, h1, h2⟩
  obtain ⟨q, HQ⟩ : ∃ q, Hid (q = L.length) := ⟨_, Lib.hid rfl⟩
  obtain ⟨val, HV⟩ : ∃ v, Hid (v = (A.read blk i).2.1) := ⟨_, Lib.hid rfl⟩
  obtain ⟨ee, HE⟩ : ∃ v, Hid (v = (A.read blk i).2.2) := ⟨_, Lib.hid rfl⟩
  obtain ⟨A', HA⟩ : ∃ v, Hid (v = (A.read blk i).1) := ⟨_, Lib.hid rfl⟩
  rw [← HV.out, ← HE.out, ← HA.out] at HRD
  rw [← HV.out, ← HA.out]
  rw [← HQ.out] at hlc hr hd hL ⊢
  have HH := Lib.hid h
  have HR := Lib.hid hr
  have HD := Lib.hid hd
  have HC := Lib.hid hcells
  obtain ⟨k0, k1, k2, k3⟩ := hr.body.cells
  have a0 : wd.cell? ⟨g, o, none⟩ = some (.int .u64 blk) := hcells 0 _ rfl
  have a1 : wd.cell? ⟨g, o + 1, none⟩ = some (.int .i64 i) := hcells 1 _ rfl
  have q1 : (0 : Int) < (q : Int) + 1 := by omega
  clear h hr hd hcells
  go_enter Try.func89, Try.ntmps89
  go_wp2_with fail
  go_cut [2] (fun s2 W1 => s2 = .int .u64 val ∧ After w b M A' (n + 1) wd.drew W1)
  case first =>
    go_region_with ((go_at_call 13; (with_reducible refine (HRD.out).mono ?_); rintro e w1 ⟨rfl, ha⟩; have HA1 := Lib.hid ha; clear ha))
    all_goals go_wp2_with fail
    all_goals go_meet
    all_goals exact ⟨rfl, HA1.out⟩
  case rest =>
    obtain ⟨rfl, M', hs, hT, hf⟩ := hcut
    have HT0 := Lib.hid (show Frm.Turn (M.foot b) wd wc from ((Frm.Turn.refl _ wd).drew).trans hT (fun k hk => .inl hk))
    have HS := Lib.hid hs
    have HF := Lib.hid (show ∀ k, k ∈ M'.foot b → k ∈ M.foot b ∨ wd.heap.size ≤ k from hf)
    have hr1 := HR.out.turn HT0.out (fun k hk => (HD.out k hk).1)
    obtain ⟨x0, hx0⟩ : ∃ x, RdBody wc r b x (.slice (some ⟨g, o, none⟩) (q + 1) c) wv := ⟨_, hr1.body⟩
    have HX0 := Lib.hid hx0
    have HW0 := Lib.hid hr1.words
    have HWW := Lib.hid hr1.ww
    obtain ⟨c0, c1, c2, c3⟩ := hx0.cells
    have f2 := hx0.thaw 2
    obtain ⟨o2, HO2⟩ : ∃ o2, Hid (o2 = if c = 1 then o else o + 2) := ⟨_, Lib.hid rfl⟩
    have htail : ∀ W2, (Instr.slice 82 (.slice (some ⟨g, o, none⟩) (q + 1) c) (some (.int .i64 1)) none none).run Try.prog W2 = .ok (.slice (some ⟨g, o2, none⟩) q (c - 1)) W2 := by rw [HO2.out]; exact run_tail g o q c hlc (by omega)
    obtain ⟨i0, hi0, hz0, hz1, hz2⟩ := info_parts info_u64
    have HNW : Hid (W.length ≤ 60000) := Lib.hid hW
    clear hs hT hf hr1 hx0 k0 k1 k2 k3 a0 a1 HRD
    obtain ⟨ao, wl, wcap, hwv⟩ : ∃ ao wl wcap, wv = .slice ao wl wcap := by
      rcases HW0.out.2 with ⟨e, _⟩ | ⟨g', cap', cur', e, _⟩ <;> exact ⟨_, _, _, e⟩
    have HWV := Lib.hid hwv
    clear hwv
    go_wp2_with (at_builtin; refine wpList_append_own_at _ rfl (.tmp 30) (.tmp 32) 42 rfl 0 29 i0 (.int .u64 0) 1 8 under_u64s hi0 hz0 hz1 hz2 rfl (by decide) wv W.length (u64s W) rfl (row_turn HW0.out ((((Frm.Turn.refl _ wc).setCell (p := ⟨r, 2, none⟩) (.inl (by simp)) _).alloc _)) (F := [r]) (fun k hk e => by simp at e; subst e; exact HWW.out hk)) ⟨wc.heap.size, 0, none⟩ 1 1 [.int .u64 val] rfl rfl (cell_one_new _ _ _ _ (by simp)) (by simp [Value.oneCell']) (by have := HNW.out; unfold maxLen; omega) (by have := HNW.out; omega) (Nat.zero_le _) ?_; intro v1 w3 hown3 hg3 _ hl3; obtain ⟨ao1, c1', rfl⟩ := Frm.row_form hown3; have hb3 := (((HX0.out.set.2.1 _).turn ((Frm.Turn.refl [] _).alloc _) (by simp)).turn (Frm.Turn.of_grown hg3) (by simp; exact fun e => HWW.out e)); obtain ⟨d0, d1, d2, d3⟩ := hb3.cells; have e0 := hb3.thaw 0; have e3 := hb3.thaw 3; have HO3 := Lib.hid hown3; have HG3 := Lib.hid hg3; have HL3 := Lib.hid hl3; have HB3 := Lib.hid hb3; clear hown3 hg3 hl3 hb3)
    have HB4 := Lib.hid (HB3.out.set.2.2 (.slice ao1 (W.length + 1) c1'))
    obtain ⟨w4, HW4⟩ : ∃ w4, Hid (w4 = w3.setCell ⟨r, 3, none⟩ (.slice ao1 (W.length + 1) c1')) := ⟨_, Lib.hid rfl⟩
    rw [← HW4.out] at HB4 ⊢
    clear d0 d1 d2 d3 e0 e3 c0 c1 c2 c3 f2
    obtain ⟨d0, d1, d2, d3⟩ := HB4.out.cells
    have HWH := Lib.hid (while_any r q x0 (rdNext r) w4.drew (rdNext_fn r) (by omega) d0 (HB4.out.thaw 0))
    have hmk := hmf
    unfold rdNext at HWH
    go_region_with ((go_at_call 88; (with_reducible refine (HWH.out).mono ?_); rintro e w5 ⟨rfl, rfl⟩))
    all_goals go_wp2_with fail
    all_goals go_end0
    all_goals refine ⟨rfl, ?_⟩
    all_goals rw [HW4.out]
    all_goals have hl3 := HL3.out
    all_goals rw [HO2.out] at HG3
    all_goals exact rd_done HQ.out hlc hcm HH.out HS.out HT0.out HF.out (by have := HR.out; rw [HQ.out] at this ⊢; exact this) (by have := HD.out; exact this) HG3.out HO3.out (by simpa using hl3)
end Pac
end Go.Proofs.Ytkjcccjkfjebaaa
